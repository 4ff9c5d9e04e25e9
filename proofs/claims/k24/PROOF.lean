import PyProof.Rows.All
import Wide.All
import OpenK.AllK
import Wide.FinOn
import Lean
import PyProof.EqAt
import PyProof.EqKinds
import PyProof.TupleCall
import PySem.Challenge.RW_mustmeet_k24_no_road
set_option Elab.async false
set_option linter.all false
set_option maxRecDepth 100000
namespace L2
open PySem PySem.Spec PyProof.Rows
noncomputable abbrev Key := Sum Int Str
noncomputable def keyIs : Key -> Value -> Bool
  | .inl k, v => Value.isInt k v
  | .inr x, v => Value.isStrOf x v
noncomputable def keyH (w : World) : Key -> Int
  | .inl k => hashInt k
  | .inr x => hashStr w x
theorem keyIs_shape : ∀ {k : Key} {v : Value}, keyIs k v = true -> (∃ i t, k = Sum.inl i /\ v = Value.int i t) \/ (∃ x t, k = Sum.inr x /\ v = Value.str x t)
  | .inl i, v, h => by
    obtain ⟨t, e⟩ := Value.isInt_shape (k := i) (v := v) h
    exact .inl ⟨i, t, rfl, e⟩
  | .inr x, v, h => by
    obtain ⟨t, e⟩ := Value.isStrOf_shape (x := x) (v := v) h
    exact .inr ⟨x, t, rfl, e⟩
theorem keyIs_int (i : Int) (t : Tok) : keyIs (.inl i) (.int i t) = true := by simp [keyIs, Value.isInt]
theorem keyIs_str (x : Str) (t : Tok) : keyIs (.inr x) (.str x t) = true := by simp [keyIs, Value.isStrOf]
theorem key_ll (a b : Int) : decide ((Sum.inl a : Key) = Sum.inl b) = (a == b) := by
  by_cases e : a = b
  · subst e; simp
  · have h : ¬ (Sum.inl a : Key) = Sum.inl b := fun q => e (Sum.inl.inj q)
    rw [decide_eq_false h]
    exact (beq_eq_false_iff_ne.mpr e).symm
theorem key_rr (a b : Str) : decide ((Sum.inr a : Key) = Sum.inr b) = decide (a = b) := by
  by_cases e : a = b
  · subst e; simp
  · have h : ¬ (Sum.inr a : Key) = Sum.inr b := fun q => e (Sum.inr.inj q)
    rw [decide_eq_false h, decide_eq_false e]
theorem key_lr (a : Int) (b : Str) : decide ((Sum.inl a : Key) = Sum.inr b) = false := decide_eq_false (fun q => nomatch q)
theorem key_rl (a : Str) (b : Int) : decide ((Sum.inr a : Key) = Sum.inl b) = false := decide_eq_false (fun q => nomatch q)
noncomputable def mixKind (prog : Program) (w : World) : PySem.KeyKind prog w Key where
  is := keyIs
  hash := keyH w
  inj := fun v a b ha hb => by
    rcases keyIs_shape ha with ⟨i, t, rfl, rfl⟩ | ⟨x, t, rfl, rfl⟩
    · rcases keyIs_shape hb with ⟨j, u, rfl, e⟩ | ⟨y, u, rfl, e⟩
      · injection e with e1 _; rw [e1]
      · exact nomatch e
    · rcases keyIs_shape hb with ⟨j, u, rfl, e⟩ | ⟨y, u, rfl, e⟩
      · exact nomatch e
      · injection e with e1 _; rw [e1]
  byValue := fun k v h => by
    rcases keyIs_shape h with ⟨i, t, rfl, rfl⟩ | ⟨x, t, rfl, rfl⟩ <;> rfl
  pyHash := fun hv h => by
    rcases keyIs_shape hv with ⟨i, t, rfl, rfl⟩ | ⟨x, t, rfl, rfl⟩
    · exact wpAny_pyHash_int h
    · exact wpAny_pyHash_str h
  eqBool := fun hu hv h => by
    rcases keyIs_shape hu with ⟨i, t, rfl, rfl⟩ | ⟨x, t, rfl, rfl⟩
    · rcases keyIs_shape hv with ⟨j, u, rfl, rfl⟩ | ⟨y, u, rfl, rfl⟩
      · rw [key_ll] at h; exact wpAny_eqBool_int h
      · rw [key_lr] at h; exact SeqAt.EqAt.int_str i t y u _ _ _ _ h
    · rcases keyIs_shape hv with ⟨j, u, rfl, rfl⟩ | ⟨y, u, rfl, rfl⟩
      · rw [key_rl] at h; exact SeqAt.EqAt.str_int x t j u _ _ _ _ h
      · rw [key_rr] at h; exact wpAny_eqBool_str h
  «strs» := fun k x t v h => by
    rcases keyIs_shape h with ⟨i, u, rfl, e⟩ | ⟨y, u, rfl, e⟩
    · exact nomatch e
    · injection e with e1 _
      subst e1
      cases v <;> rfl
theorem mixKind_int (prog : Program) (w : World) (i : Int) (t : Tok) : (mixKind prog w).is (.inl i) (.int i t) = true := keyIs_int i t
theorem mixKind_str (prog : Program) (w : World) (x : Str) (t : Tok) : (mixKind prog w).is (.inr x) (.str x t) = true := keyIs_str x t
end L2
namespace L2
open PySem PySem.Spec PyProof.Rows
inductive V where
  | non | bl (b : Bool) | int (i : Int) | str (x : Str) | byt (b : Array UInt8) | flt (b : UInt64) | ref (a : Addr) | ty (n : String)
  deriving DecidableEq
noncomputable def RelV : V -> Value -> Prop
  | .non, u => u = Value.none
  | .bl b, u => u = Value.bool b
  | .int i, u => ∃ t, u = Value.int i t
  | .str x, u => ∃ t, u = Value.str x t
  | .byt b, u => ∃ t, u = Value.bytes b t
  | .flt b, u => ∃ t, u = Value.float b t
  | .ref a, u => u = Value.ref a
  | .ty n, u => u = Value.type n
noncomputable abbrev Vals : List V -> List Value -> Prop := Paired RelV
theorem Vals.length {xs : List V} {us : List Value} (r : Vals xs us) : xs.length = us.length := Paired.length r
theorem Vals.get : ∀ {xs : List V} {us : List Value} {i : Nat} {x : V}, Vals xs us -> xs[i]? = some x -> ∃ u, us[i]? = some u /\ RelV x u
  | _, _, _, _, .nil, e => by simp at e
  | _, _, 0, _, .cons r _, e => by simp at e; subst e; exact ⟨_, rfl, r⟩
  | _, _, i + 1, x, .cons _ t, e => by
    obtain ⟨u, h1, h2⟩ := Vals.get (i := i) (x := x) t (by simpa using e)
    exact ⟨u, by simpa using h1, h2⟩
theorem Vals.set {x : V} {u : Value} (r : RelV x u) : ∀ {xs : List V} {us : List Value} (i : Nat), Vals xs us -> Vals (xs.set i x) (us.set i u)
  | _, _, _, .nil => .nil
  | _, _, 0, .cons _ t => .cons r t
  | _, _, i + 1, .cons q t => .cons q (Vals.set r i t)
theorem Vals.append : ∀ {xs ys : List V} {us ws : List Value}, Vals xs us -> Vals ys ws -> Vals (xs ++ ys) (us ++ ws)
  | _, _, _, _, .nil, s => s
  | _, _, _, _, .cons r t, s => .cons r (Vals.append t s)
theorem Vals.take : ∀ {xs : List V} {us : List Value} (n : Nat), Vals xs us -> Vals (xs.take n) (us.take n)
  | _, _, 0, _ => .nil
  | _, _, _ + 1, .nil => .nil
  | _, _, n + 1, .cons r t => .cons r (Vals.take n t)
theorem Vals.drop : ∀ {xs : List V} {us : List Value} (n : Nat), Vals xs us -> Vals (xs.drop n) (us.drop n)
  | _, _, 0, r => r
  | _, _, _ + 1, .nil => .nil
  | _, _, n + 1, .cons _ t => Vals.drop n t
noncomputable def RelO : Option V -> Option Value -> Prop
  | some v, some u => RelV v u
  | none, none => True
  | _, _ => False
noncomputable def KV {κ : Type} : List (κ × V) -> List (κ × Value) -> Prop := Paired fun (p : κ × V) (q : κ × Value) => p.1 = q.1 /\ RelV p.2 q.2
noncomputable def kV : Key -> V
  | .inl i => .int i
  | .inr x => .str x
inductive HO where
    | lst (xs : List V)
    | tup (xs : List V)
    | dK (kvs : List (Key × V)) | dT (kvs : List (List Key × V))
    | set (S : Int -> Bool) (n : Nat)
    | ins (C dx : Addr) (fs : List (Str × V))
    | own (x : Addr)
    | xd (fs : List (Str × V))
    | met (f x : Addr)
    | rng (lo hi : Int)
    | frz (o : Obj) (u : HO)
    | tbl (ps : Array Value)
    | ext (φ : Heap -> Prop)
noncomputable abbrev Hp := Addr -> Option HO
noncomputable def upd (H : Hp) (a : Addr) (o : HO) : Hp := fun b => if b = a then some o else H b
theorem upd_same {H : Hp} {a : Addr} {o : HO} : upd H a o a = some o := by unfold upd; rw [if_pos rfl]
theorem upd_ne {H : Hp} {a b : Addr} {o : HO} (h : b ≠ a) : upd H a o b = H b := by unfold upd; rw [if_neg h]
theorem upd_upd {H : Hp} {a : Addr} {o u : HO} : upd (upd H a o) a u = upd H a u := by
  funext b; unfold upd; split <;> rfl
theorem ne_of {H : Hp} {a b : Addr} {o u : HO} (h : H a = some o) (h' : H b = some u) (d : o ≠ u) : a ≠ b := by
  intro e; subst e; rw [h] at h'; exact d (Option.some.inj h')
theorem ne_of_none {H : Hp} {a b : Addr} {o : HO} (h : H a = some o) (h' : H b = none) : a ≠ b := by
  intro e; subst e; rw [h] at h'; cases h'
section
variable (P : Program) (w : World)
noncomputable def ObjOk (H : Hp) (h : Heap) (a : Addr) : HO -> Prop
  | .lst xs => xs.length <= sizeLine /\ ∃ (its : List Value) (n : Nat), Vals xs its /\ h.get? a = some { cls := .type "list", data := .seq its.toArray n }
  | .tup xs => xs.length <= sizeLine /\ ∃ its : List Value, Vals xs its /\ IsTup h a its.toArray
  | .dK kvs => kvs.length <= sizeLine /\ (a == sysModules) = false /\ ∃ vs, KV kvs vs /\ h.DictOf (mixKind P w) a vs
  | .dT kvs => kvs.length <= sizeLine /\ (a == sysModules) = false /\ ∃ xs : List (List Key × Addr × Value),
      Paired (fun (p : List Key × V) (q : List Key × Addr × Value) => p.1 = q.1 /\ H q.2.1 = some (.tup (p.1.map kV)) /\ RelV p.2 q.2.2) kvs xs /\
      ∃ o es ep, h.get? a = some o /\ o.ExactDict /\ o.data = .dict es ep /\ es.toList = xs.map (entryOfKey (tupleKind (mixKind P w))) /\ (xs.map (·.1)).Nodup
  | .set S n => h.SetOf (intKind P w) a S n
  | .ins C dx fs => H dx = some (.own a) /\ fs.length <= 1000 /\ dx ≠ a /\ h.get? a = some (PySem.W.instObj C dx) /\
      ∃ mA, h.Ns1 dx mA /\ (∀ f, RelO (fs.lookup f) (mA f)) /\ PySem.Within mA (fs.map (·.1))
  | .own _ => ∃ o, h.get? a = some o
  | .xd fs => ∃ mA, h.Ns1 a mA /\ ∀ f, RelO (fs.lookup f) (mA f)
  | .rng lo hi => ∃ t u v, h.get? a = some { cls := .type "range", data := .fields #[.int lo t, .int hi u, .int 1 v] }
  | .frz o u => h.get? a = some o /\ ObjOk H h a u
  | .tbl ps => h.get? a = some { cls := .none, data := .fields ps }
  | .met f x => h.get? a = some (PySem.W.methodObj (.ref f) (.ref x))
  | .ext φ => φ h /\ (∃ o, h.get? a = some o) /\ ∀ h1 h2 : Heap, φ h1 -> (∀ o, h1.get? a = some o -> h2.get? a = some o) -> φ h2
noncomputable def HOk (H : Hp) (h : Heap) : Prop := ∀ a o, H a = some o -> ObjOk P w H h a o
end
section
variable {P : Program} {w : World} {H H' : Hp} {h h' : Heap} {a : Addr} {o : HO}
theorem ObjOk.lt (x : ObjOk P w H h a o) : a < h.objs.size := by
  cases o with
  | lst xs => obtain ⟨_, _, _, _, e⟩ := x; exact Heap.lt_size e
  | tup xs => obtain ⟨_, _, _, p⟩ := x; exact p.lt
  | dK kvs => obtain ⟨_, _, _, _, o, _, _, e, _⟩ := x; exact Heap.lt_size e
  | dT kvs => obtain ⟨_, _, _, _, o, _, _, e, _⟩ := x; exact Heap.lt_size e
  | set S n => obtain ⟨o, _, _, _, e, _⟩ := x; exact Heap.lt_size e
  | ins C dx fs => obtain ⟨_, _, _, e, _⟩ := x; exact Heap.lt_size e
  | own y => obtain ⟨_, e⟩ := x; exact Heap.lt_size e
  | xd fs => obtain ⟨_, ⟨_, _, _, e, _⟩, _⟩ := x; exact Heap.lt_size e
  | rng lo hi => obtain ⟨_, _, _, e⟩ := x; exact Heap.lt_size e
  | frz ob u => obtain ⟨e, _⟩ := x; exact Heap.lt_size e
  | tbl ps => exact Heap.lt_size (show h.get? a = some _ from x)
  | met f y => exact Heap.lt_size (show h.get? a = some _ from x)
  | ext φ => obtain ⟨_, ⟨_, e⟩, _⟩ := x; exact Heap.lt_size e
theorem Paired.mapP {α β : Type} {F G : α -> β -> Prop} : ∀ {l₁ : List α} {l₂ : List β}, Paired F l₁ l₂ -> (∀ a b, F a b -> G a b) -> Paired G l₁ l₂
  | _, _, .nil, _ => .nil
  | _, _, .cons r t, f => .cons (f _ _ r) (Paired.mapP t f)
theorem ObjOk.stay (x : ObjOk P w H h a o) (k : ∀ b u, (b = a \/ H b = some (.own a)) -> h.get? b = some u -> h'.get? b = some u)
    (ho : ∀ b, H b = some (.own a) -> H' b = some (.own a)) (ht : ∀ b xs, H b = some (.tup xs) -> H' b = some (.tup xs)) : ObjOk P w H' h' a o := by
  induction o with
  | lst xs => obtain ⟨z, its, n, r, e⟩ := x; exact ⟨z, its, n, r, k _ _ (.inl rfl) e⟩
  | tup xs => obtain ⟨z, its, r, ob, e, c⟩ := x; exact ⟨z, its, r, ob, k _ _ (.inl rfl) e, c⟩
  | dK kvs => obtain ⟨z, y, vs, r, ob, es, ep, e, c⟩ := x; exact ⟨z, y, vs, r, ob, es, ep, k _ _ (.inl rfl) e, c⟩
  | dT kvs =>
    obtain ⟨z, y, xs, r, ob, es, ep, e, c⟩ := x
    exact ⟨z, y, xs, Paired.mapP r fun p q z => ⟨z.1, ht _ _ z.2.1, z.2.2⟩, ob, es, ep, k _ _ (.inl rfl) e, c⟩
  | set S n => obtain ⟨ob, es, ep, t, e, c⟩ := x; exact ⟨ob, es, ep, t, k _ _ (.inl rfl) e, c⟩
  | ins C dx fs =>
    obtain ⟨d, z, ne, e, mA, ⟨od, es, ep, e2, c⟩, r⟩ := x
    exact ⟨ho _ d, z, ne, k _ _ (.inl rfl) e, mA, ⟨od, es, ep, k _ _ (.inr d) e2, c⟩, r⟩
  | own y => obtain ⟨ob, e⟩ := x; exact ⟨ob, k _ _ (.inl rfl) e⟩
  | xd fs => obtain ⟨mA, ⟨od, es, ep, e, c⟩, r⟩ := x; exact ⟨mA, ⟨od, es, ep, k _ _ (.inl rfl) e, c⟩, r⟩
  | rng lo hi => obtain ⟨t, u, v, e⟩ := x; exact ⟨t, u, v, k _ _ (.inl rfl) e⟩
  | frz ob u ih => obtain ⟨e, q⟩ := x; exact ⟨k _ _ (.inl rfl) e, ih q⟩
  | tbl ps =>
    have e : h.get? a = some { cls := .none, data := .fields ps } := x
    show h'.get? a = some { cls := .none, data := .fields ps }
    exact k a _ (.inl rfl) e
  | met f y =>
    have e : h.get? a = some (PySem.W.methodObj (.ref f) (.ref y)) := x
    show h'.get? a = some (PySem.W.methodObj (.ref f) (.ref y))
    exact k a _ (.inl rfl) e
  | ext φ => obtain ⟨p, ⟨o, e⟩, st⟩ := x; exact ⟨st _ _ p fun o q => k _ _ (.inl rfl) q, ⟨o, k _ _ (.inl rfl) e⟩, st⟩
theorem HOk.lt (x : HOk P w H h) (e : H a = some o) : a < h.objs.size := (x a o e).lt
theorem HOk.fresh (x : HOk P w H h) (e : h.objs.size <= a) : H a = none := by
  cases q : H a with
  | none => rfl
  | some u => exact absurd (Nat.lt_of_lt_of_le (x.lt q) e) (Nat.lt_irrefl _)
theorem HOk.kept (x : HOk P w H h) (k : ∀ b u, h.get? b = some u -> h'.get? b = some u) : HOk P w H h' := fun a o e =>
  (x a o e).stay (fun b u _ q => k b u q) (fun _ q => q) fun _ _ q => q
theorem HOk.laid (x : HOk P w H h) (k : ∀ b u, h.get? b = some u -> h'.get? b = some u) (hp : h.objs.size <= a) (new : ObjOk P w (upd H a o) h' a o) : HOk P w (upd H a o) h' := fun b u e => by
  have hn := x.fresh hp
  by_cases hb : b = a
  · subst hb; rw [upd_same] at e; cases e; exact new
  · rw [upd_ne hb] at e
    exact (x b u e).stay (fun c v _ q => k c v q) (fun c q => by rw [upd_ne (ne_of_none q hn)]; exact q) fun c xs q => by rw [upd_ne (ne_of_none q hn)]; exact q
end
noncomputable def Rd (H : Hp) (a : Addr) (u : HO) : Prop := H a = some u \/ ∃ o, H a = some (.frz o u)
theorem Rd.ok {P : Program} {w : World} {H : Hp} {h : Heap} {a : Addr} {u : HO} (r : Rd H a u) (x : HOk P w H h) : ObjOk P w H h a u := by
  rcases r with r | ⟨o, r⟩
  · exact x a u r
  · obtain ⟨_, q⟩ := x a _ r
    exact q
noncomputable def Mut : Option HO -> Prop
  | some (.lst _) => True
  | some (.dK _) => True
  | some (.dT _) => True
  | some (.set _ _) => True
  | some (.ins _ _ _) => True
  | some (.ext _) => True
  | _ => False
section
variable {P : Program} {w : World} {H : Hp} {h h' : Heap} {x e : Addr} {o' : HO}
theorem HOk.write (ok : HOk P w H h) (mu : Mut (H x)) (he : e = x \/ H e = some (.own x)) (k : ∀ b u, b ≠ e -> h.get? b = some u -> h'.get? b = some u) (heo : ∃ u, h'.get? e = some u)
    (new : ObjOk P w (upd H x o') h' x o') : HOk P w (upd H x o') h' := fun b u q => by
  have nown : ∀ c y, H c = some (.own y) -> c ≠ x := fun c y r z => by subst z; rw [r] at mu; exact mu
  have ntup : ∀ c xs, H c = some (.tup xs) -> c ≠ x := fun c xs r z => by subst z; rw [r] at mu; exact mu
  by_cases hb : b = x
  · subst hb; rw [upd_same] at q; cases q; exact new
  · rw [upd_ne hb] at q
    by_cases hbe : b = e
    · have q' : H b = some (.own x) := by
        rcases he with z | z
        · exact absurd (hbe.trans z) hb
        · rw [hbe]; exact z
      rw [q] at q'; cases q'
      obtain ⟨v, hv⟩ := heo
      exact ⟨v, by rw [hbe]; exact hv⟩
    · refine (ok b u q).stay (fun c v hc r => k c v ?_ r) (fun c r => by rw [upd_ne (nown c b r)]; exact r) fun c xs r => by rw [upd_ne (ntup c xs r)]; exact r
      rcases hc with rfl | hc
      · exact hbe
      · rintro rfl
        rcases he with z | z
        · exact nown c b hc z
        · rw [hc] at z; cases z; exact hb rfl
end
structure Un (fs ex : List Addr) (H H' : Hp) (h h' : Heap) : Prop where
  keep : ∀ b o, h.get? b = some o -> H b = none -> b ∉ fs -> b ∉ ex -> h'.get? b = some o
  slot : ∀ b o, h.get? b = some o -> H b = none -> b ∈ fs -> b ∉ ex -> ∃ sl, h'.get? b = some { o with slots := sl }
  free : ∀ b o, h.get? b = some o -> H b = none -> b ∉ ex -> H' b = none
  there : ∀ b o, h.get? b = some o -> b ∉ ex -> ∃ o', h'.get? b = some o'
  tups : ∀ b xs, H b = some (.tup xs) -> H' b = some (.tup xs)
  frzs : ∀ b o u, H b = some (.frz o u) -> H' b = some (.frz o u)
  tbls : ∀ b ps, H b = some (.tbl ps) -> ∃ more, H' b = some (.tbl (ps ++ more))
section
variable {fs fs' ex ex' : List Addr} {H H1 H2 : Hp} {h h1 h2 h' : Heap} {a x e : Addr} {o : HO}
theorem Un.any (u : Un fs ex H H1 h h1) {b : Addr} {ob : Obj} (q : h.get? b = some ob) (n : H b = none) (hx : b ∉ ex) : ∃ sl, h1.get? b = some { ob with slots := sl } := by
  by_cases hb : b ∈ fs
  · exact u.slot b ob q n hb hx
  · exact ⟨ob.slots, u.keep b ob q n hb hx⟩
theorem Un.kept (k : ∀ b u, h.get? b = some u -> h'.get? b = some u) : Un fs ex H H h h' :=
  ⟨fun b ob q _ _ _ => k b ob q, fun b ob q _ _ _ => ⟨ob.slots, k b ob q⟩, fun _ _ _ n _ => n, fun b ob q _ => ⟨ob, k b ob q⟩, fun _ _ q => q, fun _ _ _ q => q, fun _ ps q => ⟨#[], by rw [q]; simp⟩⟩
theorem Un.refl : Un fs ex H H h h := Un.kept fun _ _ q => q
theorem Un.laid (k : ∀ b u, h.get? b = some u -> h'.get? b = some u) (hp : h.objs.size <= a) (hn : H a = none) : Un fs ex H (upd H a o) h h' where
  keep := fun b u q _ _ _ => k b u q
  slot := fun b u q _ _ _ => ⟨u.slots, k b u q⟩
  free := fun b u q n _ => by rw [upd_ne (Nat.ne_of_lt (Nat.lt_of_lt_of_le (Heap.lt_size q) hp))]; exact n
  there := fun b u q _ => ⟨u, k b u q⟩
  tups := fun b xs q => by rw [upd_ne (ne_of_none q hn)]; exact q
  frzs := fun b u xs q => by rw [upd_ne (ne_of_none q hn)]; exact q
  tbls := fun b ps q => ⟨#[], by rw [upd_ne (ne_of_none q hn), q]; simp⟩
theorem Un.write (mu : Mut (H x)) (he : e = x \/ H e = some (.own x)) (k : ∀ b u, b ≠ e -> h.get? b = some u -> h'.get? b = some u) (heo : ∃ u, h'.get? e = some u) : Un fs ex H (upd H x o) h h' := by
  have hx : ∀ b, H b = none -> b ≠ x := fun b n z => by subst z; rw [n] at mu; exact mu
  have hb : ∀ b, H b = none -> b ≠ e := fun b n z => by
    subst z
    rcases he with r | r
    · exact hx b n r
    · rw [n] at r; cases r
  have hm : ∀ b u, H b = some u -> ¬ Mut (some u) -> b ≠ x := fun b u q nm z => by subst z; rw [q] at mu; exact nm mu
  refine ⟨fun b u q n _ _ => k b u (hb b n) q, fun b u q n _ _ => ⟨u.slots, k b u (hb b n) q⟩, fun b u q n _ => by rw [upd_ne (hx b n)]; exact n, fun b u q _ => ?_,
    fun b xs q => by rw [upd_ne (hm b _ q fun z => z)]; exact q, fun b u xs q => by rw [upd_ne (hm b _ q fun z => z)]; exact q, fun b ps q => ⟨#[], by rw [upd_ne (hm b _ q fun z => z), q]; simp⟩⟩
  by_cases hbe : b = e
  · subst hbe; exact heo
  · exact ⟨u, k b u hbe q⟩
end
noncomputable def trk (h : Heap) (H : Hp) : List Addr := (List.range h.objs.size).filter fun a => (H a).isSome
noncomputable def hidT (h : Heap) (H : Hp) : Heap := PySem.W.hideAll h (trk h H)
theorem hidT_size (h : Heap) (H : Hp) : (hidT h H).objs.size = h.objs.size := PySem.W.hideAll_size _ _
theorem hidT_get {h : Heap} {H : Hp} {b : Addr} {o : Obj} (e : h.get? b = some o) (n : H b = none) : (hidT h H).get? b = some o :=
  PySem.W.hideAll_get _ e fun hm => by
    have q : (H b).isSome = true := (List.mem_filter.mp hm).2
    rw [n] at q; simp at q
theorem of_hidT {h : Heap} {H : Hp} {b : Addr} {o : Obj} (e : (hidT h H).get? b = some o) : h.get? b = some o /\ H b = none := by
  have e' : h.get? b = some o := PySem.W.of_hideAll (trk h H) e
  refine ⟨e', ?_⟩
  cases q : H b with
  | none => rfl
  | some x =>
    have hm : b ∈ trk h H := List.mem_filter.mpr ⟨List.mem_range.mpr (Heap.lt_size e'), by simp [q]⟩
    have z : (hidT h H).get? b = none := PySem.W.hideAll_none (trk h H) hm
    rw [z] at e; cases e
noncomputable def allNews (g h : Heap) (L : Addr) : List (Addr × Obj) := (List.range h.objs.size).filterMap fun a => if a = L \/ (g.get? a).isSome = true then none else (h.get? a).map fun o => (a, o)
noncomputable def rest (g h : Heap) (L d : Addr) : List (Addr × Obj) := (allNews g h L).filter fun p => decide (p.1 ≠ d)
end L2
namespace L2
open PySem PySem.Spec PyProof.Rows
structure Mod (K : PySem.W.Frag) (mg : Str -> Option Value) (base : Heap) : Prop where
  kin : K.In base
  glob : base.Ns mainGlobals mg
  blt : ∃ mb, base.Ns builtinsNs mb /\ ∀ x : Str, x ≠ "__name__" -> mb x = bootBuiltins x
  nolimit : base.NoLimit
structure Cx where
  prog : Program
  w : World
  K : PySem.W.Frag
  mg : Str -> Option Value
  base : Heap
  A : Around
  N : List Str
  s₀ : Shared
  H₀ : Hp
  env : Env
  outer : List Env
  stack : List Env
  ex : List Addr
  fn : Str -> Bool
  calm : Bool
  pn : List (Addr × Obj)
  xe : Value -> Shared -> Prop
noncomputable def frs (l : List Env) : List Addr := l.filterMap (·.frame)
noncomputable abbrev Cx.fs (X : Cx) : List Addr := frs X.outer
noncomputable def Vis (sc : Scope) (x : Str) : Prop := sc.names.lookup x = some .local \/ sc.names.lookup x = some .cell \/ sc.names.lookup x = some .free
noncomputable def Loc (sc : Scope) (x : Str) : Prop := sc.names.lookup x = some .local \/ sc.names.lookup x = some .cell
noncomputable def Look (env : Env) (h : Heap) (m : Str -> Option Value) (x : Str) (u : Value) : Prop :=
  (env.kindOf x = some .local /\ m x = some u) \/ ((env.kindOf x = some .cell \/ env.kindOf x = some .free) /\ ∃ c, env.cells.lookup x = some c /\ h.IsCell c (some u))
structure Cx.Ok (X : Cx) : Prop where
  mod : Mod X.K X.mg X.base
  kind : X.env.scope.kind = .function
  glob : X.env.globals = mainGlobals
  blt : X.env.builtins = builtinsNs
  above : X.s₀.heap.objs.size <= X.env.locals
  inj : ∀ x y c, X.env.cells.lookup x = some c -> X.env.cells.lookup y = some c -> x = y
  has : ∀ x, (X.env.kindOf x = some .cell \/ X.env.kindOf x = some .free) -> ∃ c, X.env.cells.lookup x = some c
  cab : ∀ x c, X.fn x = true -> X.env.cells.lookup x = some c -> X.s₀.heap.objs.size <= c
  hd : X.calm = true -> X.A.handled = none
  frames : X.A.frames = some X.stack
  stk : X.stack = X.outer \/ (X.stack = X.env :: X.outer /\ X.env.frame = some X.env.locals)
  exf : ∀ b ∈ X.ex, b ≠ X.env.locals /\ ∀ x c, X.env.cells.lookup x = some c -> c ≠ b
  bs : ∀ b o, X.base.get? b = some o -> X.s₀.heap.get? b = some o /\ X.H₀ b = none
  bsz : X.base.objs.size <= X.s₀.heap.objs.size
  noex : ∀ b o, X.base.get? b = some o -> b ∉ X.ex
  exfs : ∀ b ∈ X.ex, b ∉ X.fs
  funs : X.s₀.heap.FunFrames X.base X.outer
  frf : ∀ b ∈ X.fs, X.H₀ b = none
structure Inv (X : Cx) (pins : List (Addr × Obj)) (σ : List (Option V)) (H : Hp) (s : Shared) : Prop where
  ok : X.Ok
  os : s.os = X.s₀.os
  bare : AllBare s.gens
  base : Un X.fs X.ex X.H₀ H X.s₀.heap s.heap
  loc : ∃ m, s.heap.Ns X.env.locals m /\ ∀ (i : Nat) (x : Str) (v : V), X.N[i]? = some x -> σ[i]? = some (some v) -> Vis X.env.scope x -> ∃ u, RelV v u /\ Look X.env s.heap m x u
  cell : ∀ x c, X.env.cells.lookup x = some c -> ∃ v, s.heap.IsCell c v
  free : H X.env.locals = none
  freeC : ∀ x c, X.env.cells.lookup x = some c -> H c = none
  pin : ∀ p ∈ X.pn ++ pins, s.heap.get? p.1 = some p.2 /\ H p.1 = none /\ p.1 ≠ X.env.locals /\ p.1 ∉ X.fs /\ ∀ v, p.2.data ≠ .cell v
  hok : HOk X.prog X.w H s.heap
  len : σ.length = X.N.length
section
variable {X : Cx} {pins : List (Addr × Obj)} {σ : List (Option V)} {H H' : Hp} {s : Shared} {h' : Heap}
theorem Cx.Ok.nofr (ok : X.Ok) {b : Addr} {o : Obj} (e : X.base.get? b = some o) : b ∉ X.fs := fun hb => by
  have := (ok.funs.mem hb).1
  rw [e] at this; cases this
theorem Inv.bs (I : Inv X pins σ H s) : ∀ b o, X.base.get? b = some o -> s.heap.get? b = some o /\ H b = none := fun b o e =>
  ⟨I.base.keep b o (I.ok.bs b o e).1 (I.ok.bs b o e).2 (I.ok.nofr e) (I.ok.noex b o e), I.base.free b o (I.ok.bs b o e).1 (I.ok.bs b o e).2 (I.ok.noex b o e)⟩
theorem Inv.bk (I : Inv X pins σ H s) : ∀ b o, X.base.get? b = some o -> s.heap.get? b = some o := fun b o e => (I.bs b o e).1
theorem Inv.mod (I : Inv X pins σ H s) : Mod X.K X.mg X.base := I.ok.mod
theorem Inv.kIn (I : Inv X pins σ H s) : X.K.In s.heap := I.ok.mod.kin.keeps I.bk
theorem Inv.lt (I : Inv X pins σ H s) : X.env.locals < s.heap.objs.size := let ⟨_, hn, _⟩ := I.loc; hn.lt
theorem Inv.sz (I : Inv X pins σ H s) : X.s₀.heap.objs.size <= s.heap.objs.size := Nat.le_trans I.ok.above (Nat.le_of_lt I.lt)
theorem Inv.nofs (I : Inv X pins σ H s) {a : Addr} (h : s.heap.objs.size <= a) : a ∉ X.fs := fun hb => by
  obtain ⟨_, o, ho, _⟩ := I.ok.funs.mem hb
  exact absurd (Nat.lt_of_lt_of_le (Heap.lt_size ho) (Nat.le_trans I.sz h)) (Nat.lt_irrefl _)
theorem Inv.cne (I : Inv X pins σ H s) : ∀ x c, X.env.cells.lookup x = some c -> c ≠ X.env.locals := fun x c e z => by
  obtain ⟨v, o, ho, hd⟩ := I.cell x c e
  obtain ⟨m, ⟨o', es, ep, ho', hd', _⟩, _⟩ := I.loc
  rw [z, ho'] at ho; cases ho; rw [hd'] at hd; cases hd
theorem Inv.funs (I : Inv X pins σ H s) : s.heap.FunFrames X.base X.outer := by
  have all : ∀ (l : List Env), (∀ b ∈ frs l, b ∈ X.fs) -> X.s₀.heap.FunFrames X.base l -> s.heap.FunFrames X.base l := by
    intro l
    induction l with
    | nil => intro _ _; trivial
    | cons env r ih =>
      intro hs hl
      obtain ⟨hk, ⟨L, o, hf, hn, ho, hd⟩, hr⟩ := hl
      have hL : L ∈ X.fs := hs L (by unfold frs; rw [List.filterMap_cons, hf]; exact List.mem_cons_self)
      obtain ⟨sl, e⟩ := I.base.slot L o ho (I.ok.frf L hL) hL fun z => I.ok.exfs L z hL
      exact ⟨hk, ⟨L, _, hf, hn, e, hd⟩, ih (fun b hb => hs b (by unfold frs; rw [List.filterMap_cons, hf]; exact List.mem_cons_of_mem _ hb)) hr⟩
  exact all X.outer (fun _ hb => hb) I.ok.funs
theorem Inv.stack (I : Inv X pins σ H s) : s.heap.FunFrames X.base X.stack := by
  rcases I.ok.stk with e | ⟨e, hf⟩
  · rw [e]; exact I.funs
  · rw [e]
    obtain ⟨m, hn, _⟩ := I.loc
    refine .cons (by rw [I.ok.kind]; decide) hf hn ?_ I.funs
    exact Heap.get?_none_of_le (Nat.le_trans I.ok.bsz I.ok.above)
theorem Inv.stkSub (I : Inv X pins σ H s) : ∀ b ∈ frs X.stack, b ∈ X.env.locals :: X.fs := fun b hb => by
  rcases I.ok.stk with e | ⟨e, hf⟩
  · rw [e] at hb; exact List.mem_cons_of_mem _ hb
  · rw [e] at hb
    unfold frs at hb
    rw [List.filterMap_cons, hf] at hb
    exact hb
theorem Inv.stkFree (I : Inv X pins σ H s) : ∀ b ∈ frs X.stack, H b = none := fun b hb => by
  rcases List.mem_cons.mp (I.stkSub b hb) with e | hb
  · rw [e]; exact I.free
  · obtain ⟨_, o, ho, _⟩ := I.ok.funs.mem hb
    exact I.base.free b o ho (I.ok.frf b hb) fun z => I.ok.exfs b z hb
theorem Inv.step {g' : Array GenState} {t' : Nat} {d' : Drawn} {ch : List Addr} (I : Inv X pins σ H s)
    (hch : ∀ b ∈ ch, (b ∈ X.ex \/ X.s₀.heap.objs.size <= b) /\ b ≠ X.env.locals /\ (∀ x c, X.env.cells.lookup x = some c -> c ≠ b) /\ ∀ p ∈ X.pn ++ pins, p.1 ≠ b)
    (keep : ∀ b o, b ≠ X.env.locals -> b ∉ X.fs -> b ∉ ch -> s.heap.get? b = some o -> H b = none -> h'.get? b = some o)
    (slot : ∀ b o, b ≠ X.env.locals -> b ∈ X.fs -> b ∉ ch -> s.heap.get? b = some o -> H b = none -> ∃ sl, h'.get? b = some { o with slots := sl }) (free : ∀ b o, b ∉ ch -> s.heap.get? b = some o -> H b = none -> H' b = none)
    (there : ∀ b o, b ∉ ch -> s.heap.get? b = some o -> ∃ o', h'.get? b = some o')
    (tups : ∀ b xs, H b = some (.tup xs) -> H' b = some (.tup xs)) (frzs : ∀ b o u, H b = some (.frz o u) -> H' b = some (.frz o u)) (tbls : ∀ b ps, H b = some (.tbl ps) -> ∃ more, H' b = some (.tbl (ps ++ more)))
    (ns : ∀ m, s.heap.Ns X.env.locals m -> h'.Ns X.env.locals m) (hok : HOk X.prog X.w H' h') (hg : AllBare g') :
    Inv X pins σ H' { s with heap := h', gens := g', drawn := d', toks := t' } := by
  have neL : ∀ b o, X.s₀.heap.get? b = some o -> b ≠ X.env.locals := fun b o e => Nat.ne_of_lt (Nat.lt_of_lt_of_le (Heap.lt_size e) I.ok.above)
  have neC : ∀ b o, X.s₀.heap.get? b = some o -> b ∉ X.ex -> b ∉ ch := fun b o e hx hb => by
    rcases (hch b hb).1 with z | z
    · exact hx z
    · exact absurd (Nat.lt_of_lt_of_le (Heap.lt_size e) z) (Nat.lt_irrefl _)
  have cellK : ∀ x c, X.env.cells.lookup x = some c -> ∀ v, s.heap.IsCell c v -> h'.IsCell c v := fun x c e v ⟨o, ho, hd⟩ => by
    have nch : c ∉ ch := fun z => (hch c z).2.2.1 x c e rfl
    by_cases hc : c ∈ X.fs
    · obtain ⟨sl, q⟩ := slot c o (I.cne x c e) hc nch ho (I.freeC x c e)
      exact ⟨_, q, hd⟩
    · exact ⟨o, keep c o (I.cne x c e) hc nch ho (I.freeC x c e), hd⟩
  refine ⟨I.ok, I.os, hg, ⟨fun b o e n hb hx => ?_, fun b o e n hb hx => ?_, fun b o e n hx => ?_, fun b o e hx => ?_, fun b xs e => tups b xs (I.base.tups b xs e), fun b o xs e => frzs b o xs (I.base.frzs b o xs e), fun b ps e => ?_⟩, ?_, fun x c e => ?_, ?_, fun x c e => ?_, fun p hp => ?_, hok, I.len⟩
  · exact keep b o (neL b o e) hb (neC b o e hx) (I.base.keep b o e n hb hx) (I.base.free b o e n hx)
  · obtain ⟨sl, e1⟩ := I.base.slot b o e n hb hx
    obtain ⟨sl', e2⟩ := slot b _ (neL b o e) hb (neC b o e hx) e1 (I.base.free b o e n hx)
    exact ⟨sl', e2⟩
  · obtain ⟨o', e1⟩ := I.base.there b o e hx
    exact free b o' (neC b o e hx) e1 (I.base.free b o e n hx)
  · obtain ⟨o', e1⟩ := I.base.there b o e hx
    exact there b o' (neC b o e hx) e1
  · obtain ⟨m1, e1⟩ := I.base.tbls b ps e
    obtain ⟨m2, e2⟩ := tbls b _ e1
    exact ⟨m1 ++ m2, by rw [e2, Array.append_assoc]⟩
  · obtain ⟨m, hn, hl⟩ := I.loc
    refine ⟨m, ns m hn, fun i x v e1 e2 e3 => ?_⟩
    obtain ⟨u, r, l⟩ := hl i x v e1 e2 e3
    refine ⟨u, r, ?_⟩
    rcases l with l | ⟨k, c, e, z⟩
    · exact .inl l
    · exact .inr ⟨k, c, e, cellK x c e _ z⟩
  · obtain ⟨v, z⟩ := I.cell x c e
    exact ⟨v, cellK x c e v z⟩
  · obtain ⟨m, ⟨o, _, _, ho, _⟩, _⟩ := I.loc
    exact free _ o (fun z => (hch _ z).2.1 rfl) ho I.free
  · obtain ⟨v, o, ho, hd⟩ := I.cell x c e
    exact free c o (fun z => (hch c z).2.2.1 x c e rfl) ho (I.freeC x c e)
  · obtain ⟨e, n, ne, nf, d⟩ := I.pin p hp
    have nch : p.1 ∉ ch := fun z => (hch p.1 z).2.2.2 p hp rfl
    exact ⟨keep p.1 p.2 ne nf nch e n, free p.1 p.2 nch e n, ne, nf, d⟩
theorem Inv.un {t' : Nat} (I : Inv X pins σ H s) (u : Un X.fs [] H H' s.heap h') (hok : HOk X.prog X.w H' h') : Inv X pins σ H' { s with heap := h', toks := t' } := by
  obtain ⟨m, ⟨o, es, ep, ho, r⟩, _⟩ := id I.loc
  obtain ⟨sl, hL⟩ := u.any ho I.free (by simp)
  exact I.step (g' := s.gens) (d' := s.drawn) (ch := []) (fun _ z => nomatch z) (fun b o _ hb _ e n => u.keep b o e n hb (by simp)) (fun b o _ hb _ e n => u.slot b o e n hb (by simp)) (fun b o _ e n => u.free b o e n (by simp)) (fun b o _ e => u.there b o e (by simp)) u.tups u.frzs u.tbls (fun m' hm => by
    obtain ⟨o', es', ep', ho', r'⟩ := hm
    rw [ho] at ho'; cases ho'
    exact ⟨_, es', ep', hL, r'⟩) hok I.bare
theorem Inv.call {g' : Array GenState} {t' : Nat} {d' : Drawn} {ch : List Addr} (I : Inv X pins σ H s) (u : Un (frs X.stack) ch H H' s.heap h') (hok : HOk X.prog X.w H' h') (hg : AllBare g')
    (hch : ∀ b ∈ ch, (b ∈ X.ex \/ X.s₀.heap.objs.size <= b) /\ b ≠ X.env.locals /\ (∀ x c, X.env.cells.lookup x = some c -> c ≠ b) /\ ∀ p ∈ X.pn ++ pins, p.1 ≠ b) :
    Inv X pins σ H' { s with heap := h', gens := g', drawn := d', toks := t' } := by
  obtain ⟨m, ⟨o, es, ep, ho, r⟩, _⟩ := id I.loc
  obtain ⟨sl, hL⟩ := u.any ho I.free fun z => (hch _ z).2.1 rfl
  exact I.step (ch := ch) hch (fun b o hL hb hc e n => u.keep b o e n (fun z => (List.mem_cons.mp (I.stkSub b z)).elim hL hb) hc) (fun b o _ _ hc e n => u.any e n hc) (fun b o hc e n => u.free b o e n hc) (fun b o hc e => u.there b o e hc) u.tups u.frzs u.tbls (fun m' hm => by
    obtain ⟨o', es', ep', ho', r'⟩ := hm
    rw [ho] at ho'; cases ho'
    exact ⟨_, es', ep', hL, r'⟩) hok hg
theorem Inv.turned {t' : Nat} {it : Addr} (I : Inv X pins σ H s) (k : ∀ b o, b ≠ it -> s.heap.get? b = some o -> h'.get? b = some o) (hn : H it = none) (hL : it ≠ X.env.locals)
    (h1 : it ∈ X.ex \/ X.s₀.heap.objs.size <= it) (h2 : ∀ x c, X.env.cells.lookup x = some c -> c ≠ it) (h3 : ∀ p ∈ X.pn ++ pins, p.1 ≠ it) : Inv X pins σ H { s with heap := h', toks := t' } := by
  have nit : ∀ b u, H b = some u -> b ≠ it := fun b u e z => by rw [z, hn] at e; cases e
  refine I.step (g' := s.gens) (d' := s.drawn) (ch := [it]) (fun b hb => ?_) (fun b o _ _ hc e _ => k b o (fun z => hc (by simp [z])) e) (fun b o _ _ hc e _ => ⟨o.slots, k b o (fun z => hc (by simp [z])) e⟩) (fun _ _ _ _ n => n)
    (fun b o hc e => ⟨o, k b o (fun z => hc (by simp [z])) e⟩) (fun _ _ e => e) (fun _ _ _ e => e) (fun b ps e => ⟨#[], by rw [e]; simp⟩) (fun m hm => ?_) (fun b u e => ?_) I.bare
  · have e : b = it := by simpa using hb
    subst e
    exact ⟨h1, hL, h2, h3⟩
  · obtain ⟨o, es, ep, ho, r⟩ := hm
    exact ⟨o, es, ep, k _ o (Ne.symm hL) ho, r⟩
  · refine (I.hok b u e).stay (fun c v hc q => k c v ?_ q) (fun _ q => q) fun _ _ q => q
    rcases hc with z | z
    · rw [z]; exact nit b u e
    · exact nit c _ z
theorem Inv.tok (I : Inv X pins σ H s) (t : Nat) : Inv X pins σ H { s with toks := t } := I.un (h' := s.heap) (t' := t) Un.refl I.hok
theorem Inv.kept {t' : Nat} (I : Inv X pins σ H s) (k : ∀ b u, s.heap.get? b = some u -> h'.get? b = some u) : Inv X pins σ H { s with heap := h', toks := t' } := I.un (Un.kept k) (I.hok.kept k)
theorem Inv.laid {a : Addr} {o : HO} {t' : Nat} (I : Inv X pins σ H s) (k : ∀ b u, s.heap.get? b = some u -> h'.get? b = some u) (hp : s.heap.objs.size <= a) (new : ObjOk X.prog X.w (upd H a o) h' a o) :
    Inv X pins σ (upd H a o) { s with heap := h', toks := t' } := I.un (Un.laid k hp (I.hok.fresh hp)) (I.hok.laid k hp new)
theorem Inv.write {x e : Addr} {o : HO} {t' : Nat} (I : Inv X pins σ H s) (mu : Mut (H x)) (he : e = x \/ H e = some (.own x)) (k : ∀ b u, b ≠ e -> s.heap.get? b = some u -> h'.get? b = some u) (heo : ∃ u, h'.get? e = some u)
    (new : ObjOk X.prog X.w (upd H x o) h' x o) : Inv X pins σ (upd H x o) { s with heap := h', toks := t' } := I.un (Un.write mu he k heo) (I.hok.write mu he k heo new)
theorem Inv.weak {σ' : List (Option V)} (I : Inv X pins σ H s) (hl : σ'.length = σ.length) (w : ∀ (i : Nat) v, σ'[i]? = some (some v) -> σ[i]? = some (some v)) : Inv X pins σ' H s :=
  ⟨I.ok, I.os, I.bare, I.base, let ⟨m, hn, hl'⟩ := I.loc; ⟨m, hn, fun i x v e1 e2 e3 => hl' i x v e1 (w i v e2) e3⟩, I.cell, I.free, I.freeC, I.pin, I.hok, hl.trans I.len⟩
theorem Inv.pins_of {pins' : List (Addr × Obj)} (I : Inv X pins σ H s) (h : ∀ p ∈ pins', s.heap.get? p.1 = some p.2 /\ H p.1 = none /\ p.1 ≠ X.env.locals /\ p.1 ∉ X.fs /\ ∀ v, p.2.data ≠ .cell v) : Inv X pins' σ H s :=
  ⟨I.ok, I.os, I.bare, I.base, I.loc, I.cell, I.free, I.freeC, fun p hp => (List.mem_append.mp hp).elim (fun z => I.pin p (List.mem_append_left _ z)) (h p), I.hok, I.len⟩
theorem nodup_ix {N : List Str} (hN : N.Nodup) {i j : Nat} {x : Str} (a : N[i]? = some x) (b : N[j]? = some x) : i = j := by
  obtain ⟨h1, e1⟩ := List.getElem?_eq_some_iff.mp a
  obtain ⟨h2, e2⟩ := List.getElem?_eq_some_iff.mp b
  exact (List.getElem_inj hN).mp (e1.trans e2.symm)
theorem store_ok2 {M : Model} {A : Around} {E : Value -> Shared -> Prop} {i : Nat} {x : Str} {v : V} {u : Value} {Q : Unit -> Shared -> Prop} (I : Inv X pins σ H s) (hN : X.N.Nodup) (hi : X.N[i]? = some x) (hx : Loc X.env.scope x) (r : RelV v u)
    (h : ∀ s', Inv X pins (σ.set i (some v)) H s' -> (∃ a, Heap.SameBut a s.heap s'.heap /\ (a = X.env.locals \/ X.env.cells.lookup x = some a)) -> Q () s') (hf : X.fn x = true \/ X.env.scope.names.lookup x = some .local := by first | exact .inl rfl | exact .inr rfl | assumption) : wpAny M A (storeName X.env x u) Q E s := by
  obtain ⟨m, hn, hl⟩ := id I.loc
  have hcls : (X.env.scope.kind == .class || (X.env.scope.kind == .module && X.env.locals != X.env.globals)) = false := by rw [I.ok.kind]; rfl
  have hiσ : i < σ.length := by rw [I.len]; exact (List.getElem?_eq_some_iff.mp hi).1
  have cne := I.cne
  have tracked : ∀ {a : Addr} {h' : Heap}, (∃ o, s.heap.get? a = some o /\ H a = none) -> Heap.SameBut a s.heap h' -> HOk X.prog X.w H h' := fun {a h'} ha hs b ob e => by
    obtain ⟨_, _, hfree⟩ := ha
    refine (I.hok b ob e).stay (fun c w' hc q => (hs.2 c ?_).trans q) (fun _ q => q) fun _ _ q => q
    rintro rfl
    rcases hc with rfl | hc
    · rw [hfree] at e; cases e
    · rw [hfree] at hc; cases hc
  rcases hx with hk | hk
  · refine wpAny_storeName_local hk hn (fun h' hn' hs => ?_) hcls
    obtain ⟨oL, _, _, hoL, _⟩ := id hn
    refine h _ ⟨I.ok, I.os, I.bare, ⟨fun b o e n hb hx => ?_, fun b o e n hb hx => ?_, I.base.free, fun b o e hx => ?_, I.base.tups, I.base.frzs, I.base.tbls⟩, ⟨_, hn', fun j y v' e1 e2 e3 => ?_⟩, fun y c e => ?_, I.free, I.freeC, fun p hp => ?_, tracked ⟨oL, hoL, I.free⟩ hs, by simpa using I.len⟩ ⟨_, hs, .inl rfl⟩
    · exact (hs.2 b (Nat.ne_of_lt (Nat.lt_of_lt_of_le (Heap.lt_size e) I.ok.above))).trans (I.base.keep b o e n hb hx)
    · obtain ⟨sl, e1⟩ := I.base.slot b o e n hb hx
      exact ⟨sl, (hs.2 b (Nat.ne_of_lt (Nat.lt_of_lt_of_le (Heap.lt_size e) I.ok.above))).trans e1⟩
    · obtain ⟨o', e1⟩ := I.base.there b o e hx
      exact ⟨o', (hs.2 b (Nat.ne_of_lt (Nat.lt_of_lt_of_le (Heap.lt_size e) I.ok.above))).trans e1⟩
    · by_cases hj : j = i
      · subst hj
        rw [hi] at e1; cases e1
        rw [List.getElem?_set_self hiσ] at e2
        cases e2
        exact ⟨u, r, .inl ⟨hk, by simp⟩⟩
      · rw [List.getElem?_set_ne (Ne.symm hj)] at e2
        obtain ⟨u', r', q⟩ := hl j y v' e1 e2 e3
        refine ⟨u', r', ?_⟩
        rcases q with ⟨k, e⟩ | ⟨k, c, e, z⟩
        · refine .inl ⟨k, ?_⟩
          have : y ≠ x := fun e => hj (nodup_ix hN e1 (e ▸ hi))
          simp [this, e]
        · exact .inr ⟨k, c, e, z.sameBut hs (cne y c e)⟩
    · obtain ⟨w', z⟩ := I.cell y c e
      exact ⟨w', z.sameBut hs (cne y c e)⟩
    · obtain ⟨e, n, ne, nf, d⟩ := I.pin p hp
      exact ⟨(hs.2 p.1 ne).trans e, n, ne, nf, d⟩
  · have hfn : X.fn x = true := by
      rcases hf with z | z
      · exact z
      · rw [z] at hk; cases hk
    obtain ⟨c, hc⟩ := I.ok.has x (.inl hk)
    obtain ⟨w', z⟩ := I.cell x c hc
    refine wpAny_storeName_cell I.ok.kind hk hc z (fun h' hc' hs => ?_)
    obtain ⟨oc, hoc, hocd⟩ := id z
    refine h { s with heap := h' } ⟨I.ok, I.os, I.bare, ⟨fun b o e n hb hx => ?_, fun b o e n hb hx => ?_, I.base.free, fun b o e hx => ?_, I.base.tups, I.base.frzs, I.base.tbls⟩, ⟨m, hn.sameBut hs (Ne.symm (cne x c hc)), fun j y v' e1 e2 e3 => ?_⟩, fun y c' e => ?_, I.free, I.freeC, fun p hp => ?_, tracked ⟨oc, hoc, I.freeC x c hc⟩ hs, by simpa using I.len⟩ ⟨c, hs, .inr hc⟩
    · exact (hs.2 b (Nat.ne_of_lt (Nat.lt_of_lt_of_le (Heap.lt_size e) (I.ok.cab x c hfn hc)))).trans (I.base.keep b o e n hb hx)
    · obtain ⟨sl, e1⟩ := I.base.slot b o e n hb hx
      exact ⟨sl, (hs.2 b (Nat.ne_of_lt (Nat.lt_of_lt_of_le (Heap.lt_size e) (I.ok.cab x c hfn hc)))).trans e1⟩
    · obtain ⟨o', e1⟩ := I.base.there b o e hx
      exact ⟨o', (hs.2 b (Nat.ne_of_lt (Nat.lt_of_lt_of_le (Heap.lt_size e) (I.ok.cab x c hfn hc)))).trans e1⟩
    · by_cases hj : j = i
      · subst hj
        rw [hi] at e1; cases e1
        rw [List.getElem?_set_self hiσ] at e2
        cases e2
        exact ⟨u, r, .inr ⟨.inl hk, c, hc, hc'⟩⟩
      · rw [List.getElem?_set_ne (Ne.symm hj)] at e2
        obtain ⟨u', r', q⟩ := hl j y v' e1 e2 e3
        refine ⟨u', r', ?_⟩
        rcases q with q | ⟨k, c', e, z'⟩
        · exact .inl q
        · refine .inr ⟨k, c', e, z'.sameBut hs ?_⟩
          rintro rfl
          exact hj (nodup_ix hN e1 (I.ok.inj _ _ _ e hc ▸ hi))
    · by_cases hcc : c' = c
      · subst hcc; exact ⟨_, hc'⟩
      · obtain ⟨w2, z2⟩ := I.cell y c' e
        exact ⟨w2, z2.sameBut hs hcc⟩
    · obtain ⟨e, n, ne, nf, d⟩ := I.pin p hp
      refine ⟨(hs.2 p.1 ?_).trans e, n, ne, nf, d⟩
      intro q
      rw [q, hoc] at e
      have q' : oc = p.2 := Option.some.inj e
      exact d w' (by rw [<- q']; exact hocd)
theorem store_ok {M : Model} {A : Around} {E : Value -> Shared -> Prop} {i : Nat} {x : Str} {v : V} {u : Value} {Q : Unit -> Shared -> Prop} (I : Inv X pins σ H s) (hN : X.N.Nodup) (hi : X.N[i]? = some x) (hx : Loc X.env.scope x) (r : RelV v u)
    (h : ∀ s', Inv X pins (σ.set i (some v)) H s' -> Q () s') (hf : X.fn x = true \/ X.env.scope.names.lookup x = some .local := by first | exact .inl rfl | exact .inr rfl | assumption) : wpAny M A (storeName X.env x u) Q E s :=
  store_ok2 I hN hi hx r (fun s' I' _ => h s' I') hf
theorem Inv.call' {s' : Shared} {ch : List Addr} (I : Inv X pins σ H s) (ho : s'.os = s.os) (u : Un (frs X.stack) ch H H' s.heap s'.heap) (hok : HOk X.prog X.w H' s'.heap) (hg : AllBare s'.gens)
    (hch : ∀ b ∈ ch, (b ∈ X.ex \/ X.s₀.heap.objs.size <= b) /\ b ≠ X.env.locals /\ (∀ x c, X.env.cells.lookup x = some c -> c ≠ b) /\ ∀ p ∈ X.pn ++ pins, p.1 ≠ b) : Inv X pins σ H' s' := by
  obtain ⟨h', g', d', t', o'⟩ := s'
  have e : o' = s.os := ho
  subst e
  exact I.call (g' := g') (t' := t') (d' := d') u hok hg hch
end
noncomputable abbrev XK := Value -> Option Addr -> Hp -> Prop
noncomputable abbrev St := List (Option V)
noncomputable abbrev VK := V -> Hp -> Prop
noncomputable abbrev TE := St -> Hp -> VK -> Prop
noncomputable abbrev TT := St -> Hp -> (Bool -> Hp -> Prop) -> Prop
noncomputable abbrev TA := St -> Hp -> (List V -> Hp -> Prop) -> Prop
structure Ends where
  nx : St -> Hp -> Prop
  rt : VK
  bk : St -> Hp -> Prop := fun _ _ => False
  ct : St -> Hp -> Prop := fun _ _ => False
noncomputable abbrev TS := Ends -> St -> Hp -> Prop
noncomputable def EP (X : Cx) (pins : List (Addr × Obj)) (σ : St) (Q : VK) (u : Value) (s' : Shared) : Prop := ∃ v H', Inv X pins σ H' s' /\ RelV v u /\ Q v H'
noncomputable def TP (X : Cx) (pins : List (Addr × Obj)) (σ : St) (Q : Bool -> Hp -> Prop) (b : Bool) (s' : Shared) : Prop := ∃ H', Inv X pins σ H' s' /\ Q b H'
noncomputable def AP (X : Cx) (pins : List (Addr × Obj)) (σ : St) (Q : List V -> Hp -> Prop) (us : List Value) (s' : Shared) : Prop := ∃ vs H', Inv X pins σ H' s' /\ Vals vs us /\ Q vs H'
noncomputable def SP (X : Cx) (pins : List (Addr × Obj)) (D : Ends) (f : Flow) (s' : Shared) : Prop :=
  match f with
  | .next => ∃ σ' H', Inv X pins σ' H' s' /\ D.nx σ' H'
  | .brk => ∃ σ' H', Inv X pins σ' H' s' /\ D.bk σ' H'
  | .cont => ∃ σ' H', Inv X pins σ' H' s' /\ D.ct σ' H'
  | .ret u => ∃ v σ' H', Inv X pins σ' H' s' /\ RelV v u /\ D.rt v H'
noncomputable def PE (X : Cx) (e : Expr) (t : TE) : Prop :=
  ∀ (pins : List (Addr × Obj)) (s : Shared) (σ : St) (H : Hp) (Q : VK), Inv X pins σ H s -> t σ H Q -> wpAny (model X.prog X.w) X.A (eval e X.env) (EP X pins σ Q) X.xe s
noncomputable def PT (X : Cx) (e : Expr) (t : TT) : Prop :=
  ∀ (pins : List (Addr × Obj)) (s : Shared) (σ : St) (H : Hp) (Q : Bool -> Hp -> Prop), Inv X pins σ H s -> t σ H Q -> wpAny (model X.prog X.w) X.A (isTrue e X.env (eval e X.env)) (TP X pins σ Q) X.xe s
noncomputable def PW (X : Cx) (e : Expr) (t : TT) : Prop :=
  ∀ (whole : Sem Value) (pins : List (Addr × Obj)) (s : Shared) (σ : St) (H : Hp) (Q : Bool -> Hp -> Prop), Inv X pins σ H s -> t σ H Q -> wpAny (model X.prog X.w) X.A (isTrue e X.env whole) (TP X pins σ Q) X.xe s
theorem PW.pt {X : Cx} {e : Expr} {t : TT} (h : PW X e t) : PT X e t := h _
noncomputable def PA (X : Cx) (es : List Expr) (t : TA) : Prop :=
  ∀ (pos : Pos) (pins : List (Addr × Obj)) (s : Shared) (σ : St) (H : Hp) (Q : List V -> Hp -> Prop), Inv X pins σ H s -> t σ H Q -> wpAny (model X.prog X.w) X.A (spliced (backTo pos (starEach es X.env))) (AP X pins σ Q) X.xe s
noncomputable def PS (X : Cx) (st : Stmt) (t : TS) : Prop :=
  ∀ (pins : List (Addr × Obj)) (s : Shared) (σ : St) (H : Hp) (D : Ends), Inv X pins σ H s -> t D σ H -> wpAny (model X.prog X.w) X.A (exec st X.env) (SP X pins D) X.xe s
noncomputable def PSs (X : Cx) (st : List Stmt) (t : TS) : Prop :=
  ∀ (pins : List (Addr × Obj)) (s : Shared) (σ : St) (H : Hp) (D : Ends), Inv X pins σ H s -> t D σ H -> wpAny (model X.prog X.w) X.A (execs st X.env) (SP X pins D) X.xe s
theorem thn {α : Type} {t : Sem α} {Q Q' : α -> Shared -> Prop} {M : Model} {A : Around} {E : Value -> Shared -> Prop} {s : Shared} (h : wpAny M A t Q E s) (hQ : ∀ a s, Q a s -> Q' a s) : wpAny M A t Q' E s := wpAny_mono h hQ fun _ _ x => x
end L2
namespace L2
open PySem PySem.Spec PyProof.Rows
section
variable {X : Cx}
noncomputable def tVar (i : Nat) : TE := fun σ H Q => ∃ v, σ[i]? = some (some v) /\ Q v H
noncomputable def tC (v : V) : TE := fun _ H Q => Q v H
theorem pe_var {i : Nat} {x : Str} {pos : Pos} (hN : X.N[i]? = some x) (hv : Vis X.env.scope x) (hd : (x == ("__debug__" : Str)) = false := by decide) (hcd : (x == ("__classdict__" : Str)) = false := by decide) : PE X (.Name x pos) (tVar i) := by
  intro pins s σ H Q I h
  obtain ⟨v, e, h⟩ := h
  obtain ⟨m, hn, hl⟩ := I.loc
  obtain ⟨u, r, l⟩ := hl i x v hN e hv
  have fin : EP X pins σ Q u s := ⟨v, H, I, r, h⟩
  rcases l with ⟨hk, hm⟩ | ⟨hk, c, hc, hcell⟩
  · exact wpAny_Name (wpAny_loadName_local I.ok.kind hk hn hm fin) hd
  · rcases hk with hk | hk
    · exact wpAny_Name (wpAny_loadName_cell I.ok.kind hk hc hcell fin) hd
    · exact wpAny_Name (wpAny_loadName_free I.ok.kind hk hc hcell fin hcd) hd
theorem pe_int {i j pos} : PE X (.Constant (.int i) j pos) (tC (.int i)) := fun _ _ _ H _ I h => wpAny_Constant_int ⟨.int i, H, I.tok _, ⟨_, rfl⟩, h⟩
theorem pe_bl {b j pos} : PE X (.Constant (.bool b) j pos) (tC (.bl b)) := fun _ _ _ H _ I h => Constant_bool ⟨.bl b, H, I, rfl, h⟩
theorem pe_non {j pos} : PE X (.Constant .none j pos) (tC .non) := fun _ _ _ H _ I h => Constant_none ⟨.non, H, I, rfl, h⟩
theorem pe_str {x j pos} : PE X (.Constant (.str x) j pos) (tC (.str x)) := fun _ _ _ H _ I h => Calls.Constant_str ⟨.str x, H, I.tok _, ⟨_, rfl⟩, h⟩
noncomputable def Gl (X : Cx) (x : Str) : Prop := X.env.kindOf x = some .globalImplicit
theorem ld_glob {E : Value -> Shared -> Prop} {pins : List (Addr × Obj)} {s : Shared} {σ : St} {H : Hp} {x : Str} {u : Value} {pos : Pos} {Q : Value -> Shared -> Prop} (I : Inv X pins σ H s) (hg : Gl X x) (hm : X.mg x = some u) (h : Q u s)
    (hd : (x == ("__debug__" : Str)) = false := by decide) : wpAny (model X.prog X.w) X.A (eval (.Name x pos) X.env) Q E s :=
  Calls.Name_function_global I.ok.kind hg (Calls.loadGlobal_global (by rw [I.ok.glob]; exact I.mod.glob.keeps I.bk) hm h) hd
theorem ld_blt {E : Value -> Shared -> Prop} {pins : List (Addr × Obj)} {s : Shared} {σ : St} {H : Hp} {x : Str} {u : Value} {pos : Pos} {Q : Value -> Shared -> Prop} (I : Inv X pins σ H s) (hg : Gl X x) (hm : X.mg x = none) (hv : bootBuiltins x = some u) (h : Q u s)
    (hn : x ≠ "__name__" := by decide) (hd : (x == ("__debug__" : Str)) = false := by decide) : wpAny (model X.prog X.w) X.A (eval (.Name x pos) X.env) Q E s := by
  obtain ⟨mb, h1, h2⟩ := I.mod.blt
  exact Calls.Name_function_global I.ok.kind hg (Calls.loadGlobal_builtin (by rw [I.ok.glob]; exact I.mod.glob.keeps I.bk) hm (by rw [I.ok.blt]; exact h1.keeps I.bk) ((h2 x hn).trans hv) h) hd
theorem pe_bltn {x : Str} {v : V} {u : Value} {pos : Pos} (hg : Gl X x) (hm : X.mg x = none) (hv : bootBuiltins x = some u) (r : RelV v u) (hn : x ≠ "__name__" := by decide) (hd : (x == ("__debug__" : Str)) = false := by decide) : PE X (.Name x pos) (tC v) :=
  fun _ _ _ H _ I h => ld_blt I hg hm hv ⟨v, H, I, r, h⟩ hn hd
variable {a b : Expr} {ta tb : TE} {pos : Pos}
noncomputable def PC (X : Cx) (op : CmpOp) (a b : Expr) (t : TE) : Prop :=
  ∀ (pins : List (Addr × Obj)) (s : Shared) (σ : St) (H : Hp) (Q : VK), Inv X pins σ H s -> t σ H Q ->
    wpAny (model X.prog X.w) X.A (eval a X.env) (fun v s₁ => wpAny (model X.prog X.w) X.A (eval b X.env) (fun u s₂ => wpAny (model X.prog X.w) X.A (compareOp op v u) (EP X pins σ Q) X.xe s₂) X.xe s₁) X.xe s
noncomputable def tB (t : TE) : TT := fun σ H Q => t σ H fun x H1 => ∃ c, x = .bl c /\ Q c H1
theorem pt_cmp {op : CmpOp} {t : TE} (h : PC X op a b t) (h1 : behindInMarks op b = false := by first | exact nobehind _ (by decide) (by decide) | rfl) : PT X (.Compare a [op] [b] pos) (tB t) := by
  intro pins s σ H Q I hw
  refine wpAny_isTrue_Compare1 (thn (h pins s σ H _ I hw) fun v s1 h1 => thn h1 fun u s2 h2 => thn h2 fun c s3 ⟨x, H1, I1, r1, q1⟩ => ?_) h1
  obtain ⟨d, rfl, q⟩ := q1
  cases r1
  exact wpAny_truthy_bool ⟨H1, I1, q⟩
theorem pt_val {e : Expr} {t : TE} (h : PE X e t) (he : ∀ whole, isTrue e X.env whole = (do let v <- whole; standAt e.pos; holding [v] (truthy v)) := by intro _; rfl) : PT X e (tB t) := by
  intro pins s σ H Q I hw
  refine isTrue_plain (thn (h pins s σ H _ I hw) fun v s1 ⟨x, H1, I1, r1, q1⟩ => ?_) (he _)
  obtain ⟨d, rfl, q⟩ := q1
  cases r1
  exact wpAny_truthy_bool ⟨H1, I1, q⟩
variable {tA tB' : TT} {rest : List Expr}
noncomputable def tAnd (t u : TT) : TT := fun σ H Q => t σ H fun c H1 => if c = true then u σ H1 Q else Q false H1
noncomputable def tOr (t u : TT) : TT := fun σ H Q => t σ H fun c H1 => if c = true then Q true H1 else u σ H1 Q
noncomputable def tNot (t : TT) : TT := fun σ H Q => t σ H fun c H1 => Q (!c) H1
theorem pw_and1 (ha : PT X a tA) : PW X (.BoolOp .And [a] pos) tA := by
  intro wh pins s σ H Q I h
  refine isTrue_and (thn (ha pins s σ H Q I h) fun c s1 e => ?_)
  cases c with
  | true => exact isTrue_and_nil e
  | false => exact e
theorem pw_or1 (ha : PT X a tA) : PW X (.BoolOp .Or [a] pos) tA := by
  intro wh pins s σ H Q I h
  refine isTrue_or (thn (ha pins s σ H Q I h) fun c s1 e => ?_)
  cases c with
  | false => exact isTrue_or_nil e
  | true => exact e
theorem pw_and (ha : PT X a tA) (hb : PW X (.BoolOp .And (b :: rest) pos) tB') : PW X (.BoolOp .And (a :: b :: rest) pos) (tAnd tA tB') := by
  intro wh pins s σ H Q I h
  refine isTrue_and (thn (ha pins s σ H _ I h) fun c s1 ⟨H1, I1, q1⟩ => ?_)
  cases c with
  | true => exact hb wh pins s1 σ H1 Q I1 q1
  | false => exact ⟨H1, I1, q1⟩
theorem pw_or (ha : PT X a tA) (hb : PW X (.BoolOp .Or (b :: rest) pos) tB') : PW X (.BoolOp .Or (a :: b :: rest) pos) (tOr tA tB') := by
  intro wh pins s σ H Q I h
  refine isTrue_or (thn (ha pins s σ H _ I h) fun c s1 ⟨H1, I1, q1⟩ => ?_)
  cases c with
  | true => exact ⟨H1, I1, q1⟩
  | false => exact hb wh pins s1 σ H1 Q I1 q1
theorem pt_not (ha : PT X a tA) : PT X (.UnaryOp .Not a pos) (tNot tA) := by
  intro pins s σ H Q I h
  exact isTrue_not (ha pins s σ H (fun c H1 => Q (!c) H1) I h)
noncomputable def tAndV (ta tb : TE) : TE := fun σ H Q => ta σ H fun x H1 => ∃ c, x = .bl c /\ if c = true then tb σ H1 Q else Q (.bl false) H1
theorem pe_one {op} {t : TE} (h : PE X a t) : PE X (.BoolOp op [a] pos) t := fun pins s σ H Q I hw => BoolOp_one (h pins s σ H Q I hw)
theorem pe_and (ha : PE X a ta) (hb : PE X (.BoolOp .And (b :: rest) pos) tb) : PE X (.BoolOp .And (a :: b :: rest) pos) (tAndV ta tb) := by
  intro pins s σ H Q I h
  refine BoolOp_and (thn (ha pins s σ H _ I h) fun v s1 ⟨x, H1, I1, r1, q1⟩ => ?_)
  obtain ⟨c, rfl, q1⟩ := q1
  cases r1
  refine wpAny_truthy_bool ?_
  cases c with
  | true => exact hb pins s1 σ H1 Q I1 q1
  | false => exact ⟨.bl false, H1, I1, rfl, q1⟩
end
end L2
namespace L2
open PySem PySem.Spec PyProof.Rows
noncomputable def SqL (K : PySem.W.Frag) (H : Hp) (a : Addr) (xs : List V) : Prop :=
  Rd H a (.lst xs) \/
    ∃ (o : Obj) (its : Array Value) (n : Nat), K.lookup a = some o /\ o.cls = .type "list" /\ o.dict = none /\ o.data = .seq its n /\ its.size <= sizeLine /\ Vals xs its.toList
noncomputable def SqT (K : PySem.W.Frag) (H : Hp) (a : Addr) (xs : List V) : Prop :=
  Rd H a (.tup xs) \/
    ∃ (o : Obj) (its : Array Value) (n : Nat), K.lookup a = some o /\ o.cls = .type "tuple" /\ o.data = .seq its n /\ its.size <= sizeLine /\ Vals xs its.toList
noncomputable def absV : Value -> Option V
  | .none => some .non
  | .bool b => some (.bl b)
  | .int i _ => some (.int i)
  | .str x _ => some (.str x)
  | .bytes b _ => some (.byt b)
  | .float b _ => some (.flt b)
  | .ref a => some (.ref a)
  | .type n => some (.ty n)
  | _ => none
theorem RelV.abs {x : V} {u : Value} (r : RelV x u) : absV u = some x := by
  cases x with
  | non => cases r; rfl
  | bl _ => cases r; rfl
  | int _ => obtain ⟨t, rfl⟩ := r; rfl
  | str _ => obtain ⟨t, rfl⟩ := r; rfl
  | byt _ => obtain ⟨t, rfl⟩ := r; rfl
  | flt _ => obtain ⟨t, rfl⟩ := r; rfl
  | ref _ => cases r; rfl
  | ty _ => cases r; rfl
theorem RelV.inj {x y : V} {u : Value} (r : RelV x u) (q : RelV y u) : x = y := Option.some.inj (r.abs.symm.trans q.abs)
theorem Vals.inj : ∀ {xs ys : List V} {us : List Value}, Vals xs us -> Vals ys us -> xs = ys
  | _, _, _, .nil, .nil => rfl
  | _, _, _, .cons r t, .cons r' t' => by rw [r.inj r', Vals.inj t t']
section
variable {X : Cx} {pins : List (Addr × Obj)} {σ : St} {H : Hp} {s : Shared} {a : Addr} {xs ys : List V}
theorem SqL.of {K : PySem.W.Frag} (h : H a = some (.lst xs)) : SqL K H a xs := .inl (.inl h)
theorem SqT.of {K : PySem.W.Frag} (h : H a = some (.tup xs)) : SqT K H a xs := .inl (.inl h)
theorem Inv.list (I : Inv X pins σ H s) (h : SqL X.K H a xs) : ∃ its : List Value, Vals xs its /\ PlainL s.heap a its.toArray /\ xs.length <= sizeLine := by
  rcases h with h | ⟨o, its, n, hk, hc, hd, hs, hz, r⟩
  · obtain ⟨z, its, n, r, e⟩ := h.ok I.hok
    exact ⟨its, r, ⟨_, n, e, rfl, rfl, rfl⟩, z⟩
  · refine ⟨its.toList, r, ⟨o, n, I.kIn a o hk, hc, hd, by simpa using hs⟩, ?_⟩
    have e := r.length
    simp only [Array.length_toList] at e
    omega
theorem Inv.tuple (I : Inv X pins σ H s) (h : SqT X.K H a xs) : ∃ its : List Value, Vals xs its /\ IsTup s.heap a its.toArray /\ xs.length <= sizeLine := by
  rcases h with h | ⟨o, its, n, hk, hc, hs, hz, r⟩
  · obtain ⟨z, its, r, p⟩ := h.ok I.hok
    exact ⟨its, r, p, z⟩
  · refine ⟨its.toList, r, ⟨o, I.kIn a o hk, hc, n, by simpa using hs⟩, ?_⟩
    have e := r.length
    simp only [Array.length_toList] at e
    omega
theorem Inv.list_inj (I : Inv X pins σ H s) (h : SqL X.K H a xs) (h' : SqL X.K H a ys) : xs = ys := by
  obtain ⟨its, r, ⟨o, n, e, _, _, d⟩, _⟩ := I.list h
  obtain ⟨its', r', ⟨o', n', e', _, _, d'⟩, _⟩ := I.list h'
  rw [e] at e'; cases e'
  rw [d] at d'
  injection d' with d1 _
  have : its = its' := by simpa using congrArg Array.toList d1
  subst this
  exact r.inj r'
theorem Inv.tuple_inj (I : Inv X pins σ H s) (h : SqT X.K H a xs) (h' : SqT X.K H a ys) : xs = ys := by
  obtain ⟨its, r, ⟨o, e, _, n, d⟩, _⟩ := I.tuple h
  obtain ⟨its', r', ⟨o', e', _, n', d'⟩, _⟩ := I.tuple h'
  rw [e] at e'; cases e'
  rw [d] at d'
  injection d' with d1 _
  have : its = its' := by simpa using congrArg Array.toList d1
  subst this
  exact r.inj r'
end
noncomputable abbrev Cx.wish (X : Cx) (E : Value -> Shared -> Prop) : Cx := { X with xe := E }
noncomputable abbrev Cx.nox (X : Cx) : Cx := X.wish fun _ _ => False
theorem Cx.Ok.wish {X : Cx} (ok : X.Ok) (E : Value -> Shared -> Prop) : (X.wish E).Ok :=
  ⟨ok.mod, ok.kind, ok.glob, ok.blt, ok.above, ok.inj, ok.has, ok.cab, ok.hd, ok.frames, ok.stk, ok.exf, ok.bs, ok.bsz, ok.noex, ok.exfs, ok.funs, ok.frf⟩
theorem Cx.Ok.unwish {X : Cx} {E : Value -> Shared -> Prop} (ok : (X.wish E).Ok) : X.Ok :=
  ⟨ok.mod, ok.kind, ok.glob, ok.blt, ok.above, ok.inj, ok.has, ok.cab, ok.hd, ok.frames, ok.stk, ok.exf, ok.bs, ok.bsz, ok.noex, ok.exfs, ok.funs, ok.frf⟩
section
variable {X : Cx} {pins : List (Addr × Obj)} {σ : St} {H : Hp} {s : Shared} {E : Value -> Shared -> Prop}
theorem Inv.wish (I : Inv X pins σ H s) (E : Value -> Shared -> Prop) : Inv (X.wish E) pins σ H s := ⟨I.ok.wish E, I.os, I.bare, I.base, I.loc, I.cell, I.free, I.freeC, I.pin, I.hok, I.len⟩
theorem Inv.unwish (I : Inv (X.wish E) pins σ H s) : Inv X pins σ H s := ⟨I.ok.unwish, I.os, I.bare, I.base, I.loc, I.cell, I.free, I.freeC, I.pin, I.hok, I.len⟩
theorem SP.unwish {D : Ends} {f : Flow} {s' : Shared} (h : SP (X.wish E) pins D f s') : SP X pins D f s' := by
  cases f with
  | next => obtain ⟨σ', H', I, q⟩ := h; exact ⟨σ', H', I.unwish, q⟩
  | brk => obtain ⟨σ', H', I, q⟩ := h; exact ⟨σ', H', I.unwish, q⟩
  | cont => obtain ⟨σ', H', I, q⟩ := h; exact ⟨σ', H', I.unwish, q⟩
  | ret u => obtain ⟨v, σ', H', I, r, q⟩ := h; exact ⟨v, σ', H', I.unwish, r, q⟩
theorem PSs.nox {st : List Stmt} {t : TS} (h : PSs X.nox st t) : PSs X st t := fun pins s σ H D I hw =>
  wpAny_mono (h pins s σ H D (I.wish _) hw) (fun _ _ q => q.unwish) fun _ _ z => False.elim z
end
section
variable {X : Cx} {st : Stmt} {rest : List Stmt} {t u : TS} {e : Expr} {te : TE} {pos : Pos}
noncomputable def tNext : TS := fun D σ H => D.nx σ H
noncomputable def tSeq (t u : TS) : TS := fun D σ H => t { D with nx := u D } σ H
theorem pss_nil : PSs X [] tNext := fun _ _ σ H _ I h => wpAny_execs_nil ⟨σ, H, I, h⟩
theorem pss_cons (h1 : PS X st t) (h2 : PSs X rest u) : PSs X (st :: rest) (tSeq t u) := by
  intro pins s σ H D I h
  refine wpAny_execs_cons (thn (h1 pins s σ H { D with nx := u D } I h) fun f s1 q => ?_)
  cases f with
  | next =>
    obtain ⟨σ', H', I', q⟩ := q
    exact h2 pins s1 σ' H' D I' q
  | ret v => exact q
  | brk => exact q
  | cont => exact q
theorem pss_one (h1 : PS X st t) : PSs X [st] t := by
  intro pins s σ H D I h
  refine wpAny_execs_cons (thn (h1 pins s σ H D I h) fun f s1 q => ?_)
  cases f with
  | next => exact wpAny_execs_nil q
  | ret v => exact q
  | brk => exact q
  | cont => exact q
theorem Inv.quiet {pins : List (Addr × Obj)} {σ : St} {H : Hp} {s : Shared} (I : Inv X pins σ H s) : interactive X.env = false := by simp [interactive, I.ok.kind]
noncomputable def tDrop (te : TE) : TS := fun D σ H => te σ H fun _ H1 => D.nx σ H1
theorem ps_expr (he : PE X e te) (hs : swapsWith e none pos.line X.env = pure false := by rfl) : PS X (.Expr e pos) (tDrop te) := by
  intro pins s σ H D I h
  exact wpAny_Expr_any (thn (he pins s σ H _ I h) fun v s1 ⟨x, H1, I1, r1, q1⟩ => ⟨σ, H1, I1, q1⟩) I.quiet hs
noncomputable def tRet (te : TE) : TS := fun D σ H => te σ H D.rt
theorem ps_ret (he : PE X e te) : PS X (.Return (some e) pos) (tRet te) := by
  intro pins s σ H D I h
  exact wpAny_Return_some (thn (he pins s σ H _ I h) fun v s1 ⟨x, H1, I1, r1, q1⟩ => ⟨x, σ, H1, I1, r1, q1⟩)
noncomputable def tIfS (c : TT) (t u : TS) : TS := fun D σ H => c σ H fun b H1 => if b = true then t D σ H1 else u D σ H1
theorem ps_if {c : Expr} {a b : List Stmt} {tc : TT} (hc : PT X c tc) (ha : PSs X a t) (hb : PSs X b u) : PS X (.If c a b pos) (tIfS tc t u) := by
  intro pins s σ H D I h
  refine wpAny_If (thn (hc pins s σ H _ I h) fun d s1 ⟨H1, I1, q1⟩ => ?_)
  cases d with
  | true => exact ha pins s1 σ H1 D I1 q1
  | false => exact hb pins s1 σ H1 D I1 q1
noncomputable def tNever : TS := fun _ _ _ => False
theorem ps_never : PS X st tNever := fun _ _ _ _ _ _ h => h.elim
end
noncomputable abbrev TG := V -> St -> Hp -> (St -> Hp -> Prop) -> Prop
noncomputable abbrev TGs := List V -> St -> Hp -> (St -> Hp -> Prop) -> Prop
noncomputable def PG (X : Cx) (target : Expr) (t : TG) : Prop :=
  ∀ (pins : List (Addr × Obj)) (s : Shared) (σ : St) (H : Hp) (v : V) (u : Value) (Q : St -> Hp -> Prop), Inv X pins σ H s -> RelV v u -> t v σ H Q ->
    wpAny (model X.prog X.w) X.A (assign target X.env u) (fun _ s' => ∃ σ' H', Inv X pins σ' H' s' /\ Q σ' H') X.xe s
noncomputable def PGs (X : Cx) (ts : List Expr) (t : TGs) : Prop :=
  ∀ (pins : List (Addr × Obj)) (s : Shared) (σ : St) (H : Hp) (vs : List V) (us : List Value) (Q : St -> Hp -> Prop), Inv X pins σ H s -> Vals vs us -> t vs σ H Q ->
    wpAny (model X.prog X.w) X.A (assignInOrder ((assignEach ts X.env).map (·.2)) us) (fun _ s' => ∃ σ' H', Inv X pins σ' H' s' /\ Q σ' H') X.xe s
noncomputable abbrev TSet := V -> V -> V -> Hp -> (Hp -> Prop) -> Prop
noncomputable def PSet (X : Cx) (t : TSet) : Prop :=
  ∀ (pins : List (Addr × Obj)) (s : Shared) (σ : St) (H : Hp) (o i v : V) (ov iv u : Value) (Q : Hp -> Prop), Inv X pins σ H s -> RelV o ov -> RelV i iv -> RelV v u -> t o i v H Q ->
    wpAny (model X.prog X.w) X.A (setItem ov iv u) (fun _ s' => ∃ H', Inv X pins σ H' s' /\ Q H') X.xe s
noncomputable abbrev TIp := V -> V -> Hp -> VK -> Prop
noncomputable def PIp (X : Cx) (op : Operator) (t : TIp) : Prop :=
  ∀ (pins : List (Addr × Obj)) (s : Shared) (σ : St) (H : Hp) (x y : V) (v u : Value) (Q : VK), Inv X pins σ H s -> RelV x v -> RelV y u -> t x y H Q ->
    wpAny (model X.prog X.w) X.A (inplaceOp op v u) (EP X pins σ Q) X.xe s
section
variable {X : Cx} {pos : Pos}
noncomputable def gName (i : Nat) : TG := fun v σ H Q => Q (σ.set i (some v)) H
theorem pg_name {i : Nat} {x : Str} (hN : X.N.Nodup) (hi : X.N[i]? = some x) (hx : Loc X.env.scope x) (hf : X.fn x = true \/ X.env.scope.names.lookup x = some .local := by first | exact .inl rfl | exact .inr rfl | assumption) : PG X (.Name x pos) (gName i) := by
  intro pins s σ H v u Q I r h
  exact wpAny_assign_Name (store_ok I hN hi hx r (fun s' I' => ⟨_, H, I', h⟩) hf)
noncomputable def gNil : TGs := fun vs σ H Q => vs = [] /\ Q σ H
noncomputable def gCons (t : TG) (u : TGs) : TGs := fun vs σ H Q => ∃ v r, vs = v :: r /\ t v σ H fun σ' H' => u r σ' H' Q
theorem pgs_nil : PGs X [] gNil := by
  intro pins s σ H vs us Q I r h
  obtain ⟨e, h⟩ := h
  subst e
  cases r
  exact assignInOrder_nil ⟨σ, H, I, h⟩
theorem pgs_cons {e : Expr} {es : List Expr} {t : TG} {u : TGs} (h1 : PG X e t) (h2 : PGs X es u)
    (hs : (assignEach (e :: es) X.env).map (·.2) = assign e X.env :: (assignEach es X.env).map (·.2) := by rfl) : PGs X (e :: es) (gCons t u) := by
  intro pins s σ H vs us Q I r h
  obtain ⟨v, vr, e1, h⟩ := h
  subst e1
  cases r with
  | cons r rr =>
    rw [hs]
    refine assignInOrder_cons (thn (h1 pins s σ H _ _ _ I r h) fun _ s1 ⟨σ1, H1, I1, q1⟩ => ?_)
    exact h2 pins s1 σ1 H1 _ _ Q I1 rr q1
noncomputable def gTup (K : PySem.W.Frag) (n : Nat) (t : TGs) : TG := fun v σ H Q => ∃ a xs, v = .ref a /\ SqT K H a xs /\ xs.length = n /\ t xs σ H Q
theorem pg_tup {es : List Expr} {k : Nat} {t : TGs} {n : Nat} (hc : X.calm = true) (h : PGs X es t)
    (hn : (assignEach es X.env).length = n := by rfl) (hst : (assignEach es X.env).findIdx? (·.1) = none := by rfl) : PG X (.Tuple es k pos) (gTup X.K n t) := by
  intro pins s σ H v u Q I r hw
  obtain ⟨a, xs, e1, hq, hl, hw⟩ := hw
  subst e1
  cases r
  obtain ⟨its, rv, ht, hz⟩ := I.tuple hq
  refine assign_Tuple_tuple (I.ok.hd hc) ht (by simp [hn, <- hl, rv.length]) hst fun h' hx => ?_
  have I1 : Inv X pins σ H { s with heap := h' } := I.kept (t' := s.toks) fun b o e => hx b o (Nat.ne_of_lt (Heap.lt_size e)) e
  exact h pins _ σ H xs _ Q I1 (by simpa using rv) hw
noncomputable def gSub (to ti : TE) (t : TSet) : TG := fun v σ H Q => to σ H fun o H1 => ti σ H1 fun i H2 => t o i v H2 fun H3 => Q σ H3
theorem pg_sub {o i : Expr} {to ti : TE} {t : TSet} (ho : PE X o to) (hi : PE X i ti) (hs : PSet X t)
    (ha : ∀ v, assign (.Subscript o i pos) X.env v = (do
      let ov <- holding [v] (eval o X.env)
      let iv <- holding [v, ov] (eval i X.env)
      standAt pos
      holding [v, ov, iv] (setItem ov iv v)
      release [v, ov, iv] []) := by intro _; rfl) : PG X (.Subscript o i pos) (gSub to ti t) := by
  intro pins s σ H v u Q I r h
  rw [ha]
  refine wpAny_bind (wpAny_holding (thn (ho pins s σ H _ I h) fun ov s1 ⟨x, H1, I1, r1, q1⟩ => ?_))
  refine wpAny_bind (wpAny_holding (thn (hi pins s1 σ H1 _ I1 q1) fun iv s2 ⟨y, H2, I2, r2, q2⟩ => ?_))
  refine wpAny_bind (wpAny_standAt (wpAny_bind (wpAny_holding (thn (hs pins s2 σ H2 x y v ov iv u _ I2 r1 r2 r q2) fun _ s3 ⟨H3, I3, q3⟩ => ?_))))
  exact wpAny_release ⟨σ, H3, I3, q3⟩
noncomputable def tAsg (te : TE) (g : TG) : TS := fun D σ H => te σ H fun x H1 => g x σ H1 D.nx
theorem ps_asg {tg e : Expr} {te : TE} {g : TG} (he : PE X e te) (hg : PG X tg g) (hs : swapsWithSole [tg] e pos.line X.env = pure false := by rfl) (hw : swappedStores [tg] e X.env = pure none := by rfl)
    (h1 : (assignEach [tg] X.env).map (·.2) = [assign tg X.env] := by rfl) : PS X (.Assign [tg] e pos) (tAsg te g) := by
  intro pins s σ H D I h
  refine wpAny_Assign_stores (thn (he pins s σ H _ I h) fun v s1 ⟨x, H1, I1, r1, q1⟩ => ?_) hs hw
  rw [h1]
  exact thn (hg pins s1 σ H1 x v _ I1 r1 q1) fun _ s2 q => q
theorem ps_set {i : Nat} {x : Str} {e : Expr} {te : TE} {pos' : Pos} (hN : X.N.Nodup) (hi : X.N[i]? = some x) (hx : Loc X.env.scope x) (he : PE X e te) (hs : swapsWith e (some (.Name x pos')) pos.line X.env = pure false := by rfl) (hf : X.fn x = true \/ X.env.scope.names.lookup x = some .local := by first | exact .inl rfl | exact .inr rfl | assumption) :
    PS X (.Assign [.Name x pos'] e pos) (tAsg te (gName i)) := by
  intro pins s σ H D I h
  refine wpAny_Assign_Name (thn (he pins s σ H _ I h) fun v s1 ⟨y, H1, I1, r1, q1⟩ => ?_) hs
  exact store_ok I1 hN hi hx r1 (fun s2 I2 => ⟨_, H1, I2, q1⟩) hf
noncomputable def tAug (i : Nat) (te : TE) (ti : TIp) : TS := fun D σ H => ∃ x, σ[i]? = some (some x) /\ te σ H fun y H1 => ti x y H1 fun z H2 => D.nx (σ.set i (some z)) H2
theorem ps_aug {i : Nat} {x : Str} {e : Expr} {te : TE} {op : Operator} {ti : TIp} {pos' : Pos} (hN : X.N.Nodup) (hi : X.N[i]? = some x) (hx : Loc X.env.scope x) (he : PE X e te) (ho : PIp X op ti) (hf : X.fn x = true \/ X.env.scope.names.lookup x = some .local := by first | exact .inl rfl | exact .inr rfl | assumption) :
    PS X (.AugAssign (.Name x pos') op e pos) (tAug i te ti) := by
  intro pins s σ H D I h
  obtain ⟨v, e1, h⟩ := h
  obtain ⟨m, hn, hl⟩ := I.loc
  have vis : Vis X.env.scope x := by rcases hx with k | k; exact .inl k; exact .inr (.inl k)
  obtain ⟨u, r, l⟩ := hl i x v hi e1 vis
  refine wpAny_AugAssign_Name ?_
  have go : wpAny (model X.prog X.w) X.A (eval e X.env) (fun w s₂ => wpAny (model X.prog X.w) X.A (inplaceOp op u w) (fun r s₃ => wpAny (model X.prog X.w) X.A (storeName X.env x r) (fun _ => SP X pins D .next) X.xe s₃) X.xe s₂) X.xe s := by
    refine thn (he pins s σ H _ I h) fun w s1 ⟨y, H1, I1, r1, q1⟩ => ?_
    refine thn (ho pins s1 σ H1 v y u w _ I1 r r1 q1) fun z s2 ⟨zv, H2, I2, r2, q2⟩ => ?_
    exact store_ok I2 hN hi hx r2 (fun s3 I3 => ⟨_, H2, I3, q2⟩) hf
  rcases l with ⟨hk, hm⟩ | ⟨hk, c, hc, hcell⟩
  · exact wpAny_loadName_local I.ok.kind hk hn hm go
  · rcases hk with hk | hk
    · exact wpAny_loadName_cell I.ok.kind hk hc hcell go
    · rcases hx with k | k
      · have : X.env.scope.names.lookup x = some .free := hk
        rw [k] at this; cases this
      · have : X.env.scope.names.lookup x = some .free := hk
        rw [k] at this; cases this
noncomputable def ipI (f : Int -> Int -> Int) : TIp := fun x y H Q => ∃ i j, x = .int i /\ y = .int j /\ Q (.int (f i j)) H
theorem ip_add : PIp X .Add (ipI fun i j => i + j) := by
  intro pins s σ H x y v u Q I r1 r2 h
  obtain ⟨i, j, e1, e2, q⟩ := h
  subst e1; subst e2
  obtain ⟨t, rfl⟩ := r1
  obtain ⟨t', rfl⟩ := r2
  exact iadd_int ⟨.int _, H, I.tok _, ⟨_, rfl⟩, q⟩
theorem ip_sub : PIp X .Sub (ipI fun i j => i - j) := by
  intro pins s σ H x y v u Q I r1 r2 h
  obtain ⟨i, j, e1, e2, q⟩ := h
  subst e1; subst e2
  obtain ⟨t, rfl⟩ := r1
  obtain ⟨t', rfl⟩ := r2
  exact isub_int ⟨.int _, H, I.tok _, ⟨_, rfl⟩, q⟩
end
section
variable {X : Cx} {pos : Pos}
end
structure It where
  go : Nat -> Hp -> Prop
  yld : Nat -> Hp -> V -> Hp -> Prop
  stop : Nat -> Hp -> Prop
noncomputable def FpOk (X : Cx) (pins : List (Addr × Obj)) (H : Hp) (b : Addr) : Prop :=
  H b = none /\ b ≠ X.env.locals /\ b ∉ X.fs /\ (b ∈ X.ex \/ X.s₀.heap.objs.size <= b) /\ (∀ x c, X.env.cells.lookup x = some c -> c ≠ b) /\ ∀ p ∈ X.pn ++ pins, p.1 ≠ b
theorem Inv.fpOk {X : Cx} {pins : List (Addr × Obj)} {σ : St} {H H' : Hp} {s : Shared} {b : Addr} (I : Inv X pins σ H s) (hb : s.heap.objs.size <= b) (hn : H' b = none) : FpOk X pins H' b := by
  refine ⟨hn, Nat.ne_of_gt (Nat.lt_of_lt_of_le I.lt hb), I.nofs hb, .inr (Nat.le_trans I.sz hb), fun x c e z => ?_, fun p hp z => ?_⟩
  · obtain ⟨v, q⟩ := I.cell x c e
    exact absurd (Nat.lt_of_lt_of_le q.lt (by rw [z]; exact hb)) (Nat.lt_irrefl _)
  · exact absurd (Nat.lt_of_lt_of_le (Heap.lt_size (I.pin p hp).1) (by rw [z]; exact hb)) (Nat.lt_irrefl _)
structure Turn (P : Program) (w : World) (K : PySem.W.Frag) (tg : Expr) (J : It) (fp : List Addr) (it : Addr) (tn : Nat -> Heap -> Prop) : Prop where
  mem : it ∈ fp
  obj : ∀ i h, tn i h -> ∀ b ∈ fp, ∃ o, h.get? b = some o /\ ∀ v, o.data ≠ .cell v
  keep : ∀ i h h', tn i h -> (∀ b ∈ fp, ∀ o, h.get? b = some o -> h'.get? b = some o) -> tn i h'
  item : ∀ (X : Cx), X.prog = P -> X.w = w -> X.K = K -> X.calm = true -> ∀ (i : Nat) (pins : List (Addr × Obj)) (s : Shared) (σ : St) (H : Hp) (E : Value -> Shared -> Prop), Inv X pins σ H s -> (∀ b ∈ fp, FpOk X pins H b) -> tn i s.heap -> J.go i H ->
    wpAny (model P w) X.A (pyNext (.ref it)) (fun r s1 => ∃ u, r = some u /\
      wpAny (model P w) X.A (letOwnedTupleGo tg (.ref it) u) (fun _ s2 => ∃ x H', Inv X pins σ H' s2 /\ RelV x u /\ J.yld i H x H' /\ tn (i + 1) s2.heap /\ ∀ b ∈ fp, H' b = none) E s1) E s
  done : ∀ (X : Cx), X.prog = P -> X.w = w -> X.K = K -> X.calm = true -> ∀ (i : Nat) (pins : List (Addr × Obj)) (s : Shared) (σ : St) (H : Hp) (E : Value -> Shared -> Prop), Inv X pins σ H s -> (∀ b ∈ fp, FpOk X pins H b) -> tn i s.heap -> J.stop i H ->
    wpAny (model P w) X.A (pyNext (.ref it)) (fun r s1 => r = none /\ Inv X pins σ H s1) E s
  self : ∀ (A : Around) (i : Nat) (s : Shared) (Q : Value -> Shared -> Prop) (E : Value -> Shared -> Prop), tn i s.heap -> Q (.ref it) s -> wpAny (model P w) A (pyIter (.ref it)) Q E s
noncomputable abbrev TI := St -> Hp -> (It -> Hp -> Prop) -> Prop
noncomputable def PIE (X : Cx) (pins : List (Addr × Obj)) (σ : St) (tg : Expr) (R : It -> Hp -> Prop) (itv : Value) (s2 : Shared) : Prop :=
  ∃ (it : Addr) (fp : List Addr) (tn : Nat -> Heap -> Prop) (J : It) (H' : Hp), itv = .ref it /\ Inv X pins σ H' s2 /\ Turn X.prog X.w X.K tg J fp it tn /\ tn 0 s2.heap /\ (∀ b ∈ fp, FpOk X pins H' b) /\ R J H'
noncomputable def PI (X : Cx) (tg iter : Expr) (wi : TI) : Prop :=
  ∀ (pins : List (Addr × Obj)) (s : Shared) (σ : St) (H : Hp) (R : It -> Hp -> Prop), Inv X pins σ H s -> wi σ H R ->
    wpAny (model X.prog X.w) X.A (eval iter X.env) (fun v s1 => wpAny (model X.prog X.w) X.A (pyIter v) (PIE X pins σ tg R) X.xe s1) X.xe s
theorem go_of {M : Model} {A : Around} {E : Value -> Shared -> Prop} {s : Shared} {tg : Expr} {it : Addr} {u : Value} {o : Obj} {n : String} {vs : Array Value} {Q : Unit -> Shared -> Prop} (ho : s.heap.get? it = some o) (hc : o.cls = .type n) (hd : o.data = .fields vs)
    (hn : ["enumerate", "zip", "dict_itemiterator", "dict_reverseitemiterator", "odict_iterator", "itertools.zip_longest", "itertools.pairwise"].contains n = false) (hQ : Q () s) : wpAny M A (letOwnedTupleGo tg (.ref it) u) Q E s := by
  unfold letOwnedTupleGo
  cases tg <;> first
    | exact wpAny_pure hQ
    | (cases u <;> first
        | exact wpAny_pure hQ
        | (refine wpAny_bind (wpAny_load ho ?_)
           rw [hc, hd]
           show wpAny M A (if (["enumerate", "zip", "dict_itemiterator", "dict_reverseitemiterator", "odict_iterator", "itertools.zip_longest", "itertools.pairwise"].contains n && vs[0]? == some (rawInt _)) = true then _ else _) Q E s
           rw [if_neg (by intro h; rw [hn, Bool.false_and] at h; cases h)]
           exact wpAny_pure hQ))
noncomputable def Itl (K : PySem.W.Frag) (a : Addr) : It :=
  ⟨fun i H => ∃ xs x, SqL K H a xs /\ xs[i]? = some x, fun i H x H' => H' = H /\ ∀ xs, SqL K H a xs -> xs[i]? = some x, fun i H => ∃ xs, SqL K H a xs /\ xs.length <= i⟩
noncomputable def Itt (K : PySem.W.Frag) (a : Addr) : It :=
  ⟨fun i H => ∃ xs x, SqT K H a xs /\ xs[i]? = some x, fun i H x H' => H' = H /\ ∀ xs, SqT K H a xs -> xs[i]? = some x, fun i H => ∃ xs, SqT K H a xs /\ xs.length <= i⟩
noncomputable def Itr (lo : Int) (n : Nat) : It := ⟨fun i _ => i < n, fun i H x H' => H' = H /\ x = .int (lo + i), fun i _ => n <= i⟩
theorem turn_list {P : Program} {w : World} {K : PySem.W.Frag} {tg : Expr} (a it : Addr) : Turn P w K tg (Itl K a) [it] it (fun i h => h.IsListIter it a i) where
  mem := by simp
  obj := fun i h st b hb => by
    have e : b = it := by simpa using hb
    subst e
    obtain ⟨o, e, c, d⟩ := st
    exact ⟨o, e, fun v z => by rw [d] at z; cases z⟩
  keep := fun i h h' st k => st.at fun o e => k it (by simp) o e
  item := by
    intro X hP hw hK hc i pins s σ H E I hf st hg
    subst hP hw hK
    obtain ⟨xs, x, hq, hx⟩ := hg
    obtain ⟨its, rv, p, hz⟩ := I.list hq
    obtain ⟨u, hu, ru⟩ := rv.get hx
    obtain ⟨f0, f1, f2, f3, f4, f5⟩ := hf it (by simp)
    refine wpAny_pyNext_list_item st p.isList (x := u) (by simpa using hu) fun h' st' sb => ?_
    have I1 : Inv X pins σ H { s with heap := h' } := I.turned (t' := s.toks) (fun b o hb e => (sb.2 b hb).trans e) f0 f1 f3 f4 f5
    obtain ⟨o, e, c, d⟩ := id st'
    exact ⟨u, rfl, go_of (s := { s with heap := h' }) e c d (by decide) ⟨x, H, I1, ru, ⟨rfl, fun ys hy => by rw [I.list_inj hy hq]; exact hx⟩, st', fun b hb => (hf b hb).1⟩⟩
  done := by
    intro X hP hw hK hc i pins s σ H E I hf st hg
    subst hP hw hK
    obtain ⟨xs, hq, hx⟩ := hg
    obtain ⟨its, rv, p, hz⟩ := I.list hq
    obtain ⟨f0, f1, f2, f3, f4, f5⟩ := hf it (by simp)
    have hl := rv.length
    exact wpAny_pyNext_list_end (I.ok.hd hc) st p.isList (by simp; omega) fun h' eb => ⟨rfl, I.turned (t' := s.toks) (fun b o hb e => eb b o hb e) f0 f1 f3 f4 f5⟩
  self := fun _ _ _ _ _ st h => wpAny_pyIter_listiter st h
theorem turn_tuple {P : Program} {w : World} {K : PySem.W.Frag} {tg : Expr} (a it : Addr) : Turn P w K tg (Itt K a) [it] it (fun i h => h.IsTupleIter it a i) where
  mem := by simp
  obj := fun i h st b hb => by
    have e : b = it := by simpa using hb
    subst e
    obtain ⟨o, e, c, d⟩ := st
    exact ⟨o, e, fun v z => by rw [d] at z; cases z⟩
  keep := fun i h h' st k => st.at fun o e => k it (by simp) o e
  item := by
    intro X hP hw hK hc i pins s σ H E I hf st hg
    subst hP hw hK
    obtain ⟨xs, x, hq, hx⟩ := hg
    obtain ⟨its, rv, p, hz⟩ := I.tuple hq
    obtain ⟨u, hu, ru⟩ := rv.get hx
    obtain ⟨f0, f1, f2, f3, f4, f5⟩ := hf it (by simp)
    refine wpAny_pyNext_tuple_item st (show s.heap.IsTuple a its.toArray from p) (x := u) (by simpa using hu) fun h' st' sb => ?_
    have I1 : Inv X pins σ H { s with heap := h' } := I.turned (t' := s.toks) (fun b o hb e => (sb.2 b hb).trans e) f0 f1 f3 f4 f5
    obtain ⟨o, e, c, d⟩ := id st'
    exact ⟨u, rfl, go_of (s := { s with heap := h' }) e c d (by decide) ⟨x, H, I1, ru, ⟨rfl, fun ys hy => by rw [I.tuple_inj hy hq]; exact hx⟩, st', fun b hb => (hf b hb).1⟩⟩
  done := by
    intro X hP hw hK hc i pins s σ H E I hf st hg
    subst hP hw hK
    obtain ⟨xs, hq, hx⟩ := hg
    obtain ⟨its, rv, p, hz⟩ := I.tuple hq
    obtain ⟨f0, f1, f2, f3, f4, f5⟩ := hf it (by simp)
    have hl := rv.length
    exact wpAny_pyNext_tuple_end (I.ok.hd hc) st (show s.heap.IsTuple a its.toArray from p) (by simp; omega) fun h' eb => ⟨rfl, I.turned (t' := s.toks) (fun b o hb e => eb b o hb e) f0 f1 f3 f4 f5⟩
  self := fun _ _ _ _ _ st h => wpAny_pyIter_tupleiter st h
theorem turn_range {P : Program} {w : World} {K : PySem.W.Frag} {tg : Expr} (it : Addr) (lo : Int) (n : Nat) : Turn P w K tg (Itr lo n) [it] it (fun i h => IsRangeIter h it (lo + (i : Nat) * 1) ((n : Int) - (i : Nat)) 1) where
  mem := by simp
  obj := fun i h st b hb => by
    have e : b = it := by simpa using hb
    subst e
    exact ⟨_, st, fun v z => by
      have z' : Data.fields _ = Data.cell v := z
      cases z'⟩
  keep := fun i h h' st k => k it (by simp) _ st
  item := by
    intro X hP hw hK hc i pins s σ H E I hf st hg
    subst hP hw hK
    obtain ⟨f0, f1, f2, f3, f4, f5⟩ := hf it (by simp)
    have W := Walks.range (prog := X.prog) (w := X.w) (I.ok.hd hc) it lo 1 n
    refine W.item i s _ _ hg st fun v h' tk hv st' kk => ?_
    obtain ⟨t, rfl⟩ := hv
    have I1 : Inv X pins σ H { s with heap := h', toks := tk } := I.turned (fun b o hb e => kk b o (by simpa using hb) e) f0 f1 f3 f4 f5
    refine ⟨_, rfl, go_of (s := { s with heap := h', toks := tk }) (n := "range_iterator") st' rfl rfl (by decide) ⟨.int (lo + i), H, I1, ⟨t, ?_⟩, ⟨rfl, rfl⟩, st', fun b hb => (hf b hb).1⟩⟩
    rw [Int.mul_one]
  done := by
    intro X hP hw hK hc i pins s σ H E I hf st hg
    subst hP hw hK
    obtain ⟨f0, f1, f2, f3, f4, f5⟩ := hf it (by simp)
    exact wpAny_pyNext_range_end (I.ok.hd hc) st (by have : n <= i := hg; omega) fun h' eb => ⟨rfl, I.turned (t' := s.toks) (fun b o hb e => eb b o hb e) f0 f1 f3 f4 f5⟩
  self := fun _ _ _ _ _ st h => wpAny_pyIter_rangeiter st h
end L2
namespace L2
open PySem PySem.Spec PyProof.Rows
section
variable {X : Cx} {tg : Expr}
noncomputable def iList (K : PySem.W.Frag) (tl : TE) : TI := fun σ H R => tl σ H fun x H1 => ∃ a, x = .ref a /\ (∃ xs, SqL K H1 a xs) /\ R (Itl K a) H1
noncomputable def iTup (K : PySem.W.Frag) (tl : TE) : TI := fun σ H R => tl σ H fun x H1 => ∃ a, x = .ref a /\ (∃ xs, SqT K H1 a xs) /\ R (Itt K a) H1
theorem pi_list {l : Expr} {tl : TE} (hl : PE X l tl) : PI X tg l (iList X.K tl) := by
  intro pins s σ H R I h
  refine thn (hl pins s σ H _ I h) fun v s1 ⟨x, H1, I1, r1, q1⟩ => ?_
  obtain ⟨a, e, ⟨xs, hq⟩, q⟩ := q1
  subst e
  cases r1
  obtain ⟨its, rv, p, hz⟩ := I1.list hq
  refine wpAny_pyIter_list p.isList ?_
  refine ⟨s1.heap.objs.size, [s1.heap.objs.size], _, _, H1, rfl, I1.kept (t' := s1.toks) fun b o e => Heap.get?_push_of_some _ e, turn_list a _, ⟨_, Heap.get?_push_size _ rfl, rfl, rfl⟩, fun b hb => ?_, q⟩
  have e : b = s1.heap.objs.size := by simpa using hb
  subst e
  exact I1.fpOk (Nat.le_refl _) (I1.hok.fresh (Nat.le_refl _))
theorem pi_tup {l : Expr} {tl : TE} (hl : PE X l tl) : PI X tg l (iTup X.K tl) := by
  intro pins s σ H R I h
  refine thn (hl pins s σ H _ I h) fun v s1 ⟨x, H1, I1, r1, q1⟩ => ?_
  obtain ⟨a, e, ⟨xs, hq⟩, q⟩ := q1
  subst e
  cases r1
  obtain ⟨its, rv, p, hz⟩ := I1.tuple hq
  refine wpAny_pyIter_tuple (show s1.heap.IsTuple a its.toArray from p) ?_
  refine ⟨s1.heap.objs.size, [s1.heap.objs.size], _, _, H1, rfl, I1.kept (t' := s1.toks) fun b o e => Heap.get?_push_of_some _ e, turn_tuple a _, ⟨_, Heap.get?_push_size _ rfl, rfl, rfl⟩, fun b hb => ?_, q⟩
  have e : b = s1.heap.objs.size := by simpa using hb
  subst e
  exact I1.fpOk (Nat.le_refl _) (I1.hok.fresh (Nat.le_refl _))
theorem range_it {pins : List (Addr × Obj)} {σ : St} {H : Hp} {s : Shared} {R : It -> Hp -> Prop} {E : Value -> Shared -> Prop} {lo hi : Int} {t u v : Tok} {tk : Nat} (I : Inv X pins σ H s) (h1 : -(2 ^ 62) <= lo) (h2 : lo < 2 ^ 62) (h3 : -(2 ^ 62) <= hi) (h4 : hi < 2 ^ 62)
    (q : R (Itr lo (hi - lo).toNat) H) : wpAny (model X.prog X.w) X.A (pyIter (.ref s.heap.objs.size)) (PIE X pins σ tg R) E { s with heap := s.heap.push { cls := .type "range", data := .fields #[.int lo t, .int hi u, .int 1 v] }, toks := tk } := by
  refine wpAny_pyIter_range (IsRange.new ..) (small_one h1 h2 h3 h4) ?_
  have I1 : Inv X pins σ H { s with heap := s.heap.push { cls := .type "range", data := .fields #[.int lo t, .int hi u, .int 1 v] }, toks := tk } := I.kept fun b o e => Heap.get?_push_of_some _ e
  refine ⟨(s.heap.push { cls := .type "range", data := .fields #[.int lo t, .int hi u, .int 1 v] }).objs.size, [(s.heap.push { cls := .type "range", data := .fields #[.int lo t, .int hi u, .int 1 v] }).objs.size], _, _, H, rfl,
    I1.kept (t' := tk) fun b o e => Heap.get?_push_of_some _ e, turn_range _ lo (hi - lo).toNat, ?_, fun b hb => ?_, q⟩
  · have e1 : lo + ((0 : Nat) : Int) * 1 = lo := by simp
    have e2 : (((hi - lo).toNat : Nat) : Int) - ((0 : Nat) : Int) = Builtin.Range.rangeSize lo hi 1 := by rw [rangeSize_one]; split <;> omega
    show IsRangeIter _ _ (lo + ((0 : Nat) : Int) * 1) ((((hi - lo).toNat : Nat) : Int) - ((0 : Nat) : Int)) 1
    rw [e1, e2]
    exact Heap.get?_push_size _ rfl
  · have e : b = (s.heap.push { cls := .type "range", data := .fields #[.int lo t, .int hi u, .int 1 v] }).objs.size := by simpa using hb
    subst e
    exact I1.fpOk (Nat.le_refl _) (I1.hok.fresh (Nat.le_refl _))
noncomputable def iRng1 (ta : TA) : TI := fun σ H R => ta σ H fun vs H1 => ∃ j : Int, vs = [.int j] /\ -(2 ^ 62) <= j /\ j < 2 ^ 62 /\ R (Itr 0 j.toNat) H1
noncomputable def iRng2 (ta : TA) : TI := fun σ H R => ta σ H fun vs H1 => ∃ i j : Int, vs = [.int i, .int j] /\ (-(2 ^ 62) <= i /\ i < 2 ^ 62 /\ -(2 ^ 62) <= j /\ j < 2 ^ 62) /\ R (Itr i (j - i).toNat) H1
theorem pi_range1 {a : Expr} {ta : TA} {p pos : Pos} (hg : Gl X "range") (hm : X.mg "range" = none) (ha : PA X [a] ta) (hs : starEach [a] X.env = [(false, eval a X.env)] := by rfl) : PI X tg (.Call (.Name "range" p) [a] [] pos) (iRng1 ta) := by
  intro pins s σ H R I h
  refine Call_ (ld_blt I hg hm boot_range (PyProof.Rows.callWith_type1 (thn (ha pos pins s σ H _ I h) fun us s1 ⟨vs, H1, I1, r1, q1⟩ => ?_) hs rfl))
  obtain ⟨j, e, q1, q2, q⟩ := q1
  subst e
  cases r1 with
  | cons r rr =>
    cases rr
    obtain ⟨t, rfl⟩ := r
    exact call_range_1 (range_it I1 (by omega) (by omega) q1 q2 (by simpa using q))
theorem pi_range2 {a b : Expr} {ta : TA} {p pos : Pos} (hg : Gl X "range") (hm : X.mg "range" = none) (ha : PA X [a, b] ta) (hs : starEach [a, b] X.env = [(false, eval a X.env), (false, eval b X.env)] := by rfl) (hs2 : starEach [b] X.env = [(false, eval b X.env)] := by rfl) :
    PI X tg (.Call (.Name "range" p) [a, b] [] pos) (iRng2 ta) := by
  intro pins s σ H R I h
  refine Call_ (ld_blt I hg hm boot_range (PyProof.Rows.callWith_type1 (thn (ha pos pins s σ H _ I h) fun us s1 ⟨vs, H1, I1, r1, q1⟩ => ?_) (by rw [hs, hs2]) (by rw [hs2]; rfl)))
  obtain ⟨i, j, e, ⟨q1, q2, q3, q4⟩, q⟩ := q1
  subst e
  cases r1 with
  | cons r rr =>
    cases rr with
    | cons r' rr =>
      cases rr
      obtain ⟨t, rfl⟩ := r
      obtain ⟨t', rfl⟩ := r'
      exact call_range_2 (range_it I1 q1 q2 q3 q4 q)
noncomputable def tFor (wi : TI) (g : TG) (tb : TS) : TS := fun D σ H => wi σ H fun J H1 => ∃ W : Nat -> Nat -> St -> Hp -> Prop, (∃ m, W 0 m σ H1) /\ ∀ i m σ H, W i m σ H ->
  (J.stop i H /\ D.nx σ H) \/ (J.go i H /\ ∃ N : St -> Hp -> Prop, (∀ σ' H', N σ' H' -> ∃ m', m' < m /\ W (i + 1) m' σ' H') /\ ∀ x H', J.yld i H x H' -> g x σ H' fun σ2 H2 => tb { D with nx := N, ct := N, bk := D.nx } σ2 H2)
noncomputable def pinsAt (fp : List Addr) (h : Heap) : List (Addr × Obj) := fp.filterMap fun b => (h.get? b).map fun o => (b, o)
theorem mem_pinsAt {fp : List Addr} {h : Heap} {b : Addr} {o : Obj} (hb : b ∈ fp) (e : h.get? b = some o) : (b, o) ∈ pinsAt fp h := List.mem_filterMap.mpr ⟨b, hb, by rw [e]; rfl⟩
theorem of_pinsAt {fp : List Addr} {h : Heap} {p : Addr × Obj} (hp : p ∈ pinsAt fp h) : p.1 ∈ fp /\ h.get? p.1 = some p.2 := by
  obtain ⟨b, hb, e⟩ := List.mem_filterMap.mp hp
  cases q : h.get? b with
  | none => rw [q] at e; cases e
  | some o =>
    rw [q] at e
    have e' : (b, o) = p := Option.some.inj e
    subst e'
    exact ⟨hb, q⟩
theorem Inv.pinned {pins : List (Addr × Obj)} {σ : St} {H : Hp} {s : Shared} {fp : List Addr} (I : Inv X pins σ H s) (hf : ∀ b ∈ fp, FpOk X pins H b) (ho : ∀ b ∈ fp, ∃ o, s.heap.get? b = some o /\ ∀ v, o.data ≠ .cell v) : Inv X (pins ++ pinsAt fp s.heap) σ H s :=
  I.pins_of fun p hp => (List.mem_append.mp hp).elim (fun z => I.pin p (List.mem_append_right _ z)) fun z => by
    obtain ⟨hb, e⟩ := of_pinsAt z
    obtain ⟨f0, f1, f2, _⟩ := hf p.1 hb
    obtain ⟨o, e', d⟩ := ho p.1 hb
    rw [e] at e'; cases e'
    exact ⟨e, f0, f1, f2, d⟩
theorem Inv.unpinned {pins pl : List (Addr × Obj)} {σ : St} {H : Hp} {s : Shared} (I : Inv X (pins ++ pl) σ H s) : Inv X pins σ H s := I.pins_of fun p hp => I.pin p (List.mem_append_right _ (List.mem_append_left _ hp))
theorem ps_for {iter : Expr} {body : List Stmt} {wi : TI} {g : TG} {tb : TS} {pos : Pos} (hp : PassesOwn (model X.prog X.w) X.A X.env X.xe) (hc : X.calm = true) (hi : PI X tg iter wi) (hg : PG X tg g) (hb : PSs X body tb)
    (hs : ∀ x, foldedSetIterable iter X.env x = pure x := by intro _; rfl) : PS X (.For tg iter body [] pos) (tFor wi g tb) := by
  intro pins s σ H D I h
  refine wpAny_For (thn (hi pins s σ H _ I h) fun v s1 h1 => thn h1 fun itv s2 h2 => ?_) hs
  obtain ⟨it, fp, tn, J, H2, e, I2, T, st2, f2, W, ⟨m0, w0⟩, turn⟩ := h2
  subst e
  -- what stays true of the iterator's objects through the loop
  have stat : ∀ {H' : Hp}, (∀ b ∈ fp, H' b = none) -> ∀ b ∈ fp, FpOk X pins H' b := fun hn b hb => ⟨hn b hb, (f2 b hb).2⟩
  refine codeAny_forLoop_any (fun n s' => ∃ i σ' H', Inv X pins σ' H' s' /\ tn i s'.heap /\ (∀ b ∈ fp, H' b = none) /\ W i n σ' H') ?_ m0 ⟨0, σ, H2, I2, st2, fun b hb => (f2 b hb).1, w0⟩
  rintro n s3 ⟨i, σ3, H3, I3, st3, fr3, w3⟩
  rcases turn i n σ3 H3 w3 with ⟨stop, qn⟩ | ⟨go, N, hN, step⟩
  · refine wpAny_passesOwn hp (thn (T.done X rfl rfl rfl hc i pins s3 σ3 H3 X.xe I3 (stat fr3) st3 stop) fun r s4 ⟨hr, I4⟩ => ?_)
    subst hr
    exact wpAny_execs_nil ⟨σ3, H3, I4, qn⟩
  · refine wpAny_passesOwn hp (thn (T.item X rfl rfl rfl hc i pins s3 σ3 H3 X.xe I3 (stat fr3) st3 go) fun r s4 ⟨u, hr, h4⟩ => ?_)
    subst hr
    refine wpAny_passesOwn hp (thn h4 fun _ s5 ⟨x, H5, I5, r5, y5, st5, fr5⟩ => ?_)
    have I5' := I5.pinned (stat fr5) (T.obj _ _ st5)
    refine wpAny_passesOwn hp (thn (hg _ s5 σ3 H5 x u _ I5' r5 (step x H5 y5)) fun _ s6 ⟨σ6, H6, I6, q6⟩ => ?_)
    refine wpAny_passesOwn hp (thn (hb _ s6 σ6 H6 _ I6 q6) fun f s7 q7 => ?_)
    have again : ∀ {σ7 : St} {H7 : Hp}, Inv X (pins ++ pinsAt fp s5.heap) σ7 H7 s7 -> N σ7 H7 -> ∃ m, m < n /\ ∃ i σ' H', Inv X pins σ' H' s7 /\ tn i s7.heap /\ (∀ b ∈ fp, H' b = none) /\ W i m σ' H' := fun {σ7 H7} I7 n7 => by
      obtain ⟨m', hm, w7⟩ := hN σ7 H7 n7
      refine ⟨m', hm, i + 1, σ7, H7, I7.unpinned, T.keep _ _ _ st5 fun b hb o e => (I7.pin (b, o) (List.mem_append_right _ (List.mem_append_right _ (mem_pinsAt hb e)))).1, fun b hb => ?_, w7⟩
      obtain ⟨o, e, d⟩ := T.obj _ _ st5 b hb
      exact (I7.pin (b, o) (List.mem_append_right _ (List.mem_append_right _ (mem_pinsAt hb e)))).2.1
    cases f with
    | next => obtain ⟨σ7, H7, I7, n7⟩ := q7; exact again I7 n7
    | cont => obtain ⟨σ7, H7, I7, n7⟩ := q7; exact again I7 n7
    | brk => obtain ⟨σ7, H7, I7, q7⟩ := q7; exact ⟨σ7, H7, I7.unpinned, q7⟩
    | ret v => obtain ⟨x7, σ7, H7, I7, r7, q7⟩ := q7; exact ⟨x7, σ7, H7, I7.unpinned, r7, q7⟩
end
theorem for_list {K : PySem.W.Frag} {a : Addr} {xs : List V} {g : TG} {tb : TS} {D : Ends} {σ : St} {H : Hp} (Pv : Nat -> St -> Hp -> Prop) (h0 : Pv 0 σ H) (hl : ∀ i σ H, i <= xs.length -> Pv i σ H -> SqL K H a xs)
    (hs : ∀ i x σ H, xs[i]? = some x -> Pv i σ H -> g x σ H fun σ2 H2 => tb { D with nx := Pv (i + 1), ct := Pv (i + 1), bk := D.nx } σ2 H2) (hd : ∀ σ H, Pv xs.length σ H -> D.nx σ H) :
    ∃ W : Nat -> Nat -> St -> Hp -> Prop, (∃ m, W 0 m σ H) /\ ∀ i m σ H, W i m σ H ->
      ((Itl K a).stop i H /\ D.nx σ H) \/ ((Itl K a).go i H /\ ∃ N : St -> Hp -> Prop, (∀ σ' H', N σ' H' -> ∃ m', m' < m /\ W (i + 1) m' σ' H') /\ ∀ x H', (Itl K a).yld i H x H' -> g x σ H' fun σ2 H2 => tb { D with nx := N, ct := N, bk := D.nx } σ2 H2) := by
  refine ⟨fun i m σ H => m = xs.length - i /\ i <= xs.length /\ Pv i σ H, ⟨xs.length, by simp, Nat.zero_le _, h0⟩, ?_⟩
  rintro i m σ H ⟨rfl, hi, p⟩
  have q := hl i σ H hi p
  by_cases hlt : i < xs.length
  · refine .inr ⟨⟨xs, xs[i], q, by simp [hlt]⟩, Pv (i + 1), fun σ' H' p' => ⟨xs.length - (i + 1), by omega, rfl, hlt, p'⟩, fun x H' y => ?_⟩
    obtain ⟨e, y⟩ := y
    subst e
    exact hs i x σ _ (y xs q) p
  · have e : i = xs.length := by omega
    subst e
    exact .inl ⟨⟨xs, q, Nat.le_refl _⟩, hd σ H p⟩
theorem for_range {lo : Int} {n : Nat} {g : TG} {tb : TS} {D : Ends} {σ : St} {H : Hp} (Pv : Nat -> St -> Hp -> Prop) (h0 : Pv 0 σ H)
    (hs : ∀ i σ H, i < n -> Pv i σ H -> g (.int (lo + i)) σ H fun σ2 H2 => tb { D with nx := Pv (i + 1), ct := Pv (i + 1), bk := D.nx } σ2 H2) (hd : ∀ σ H, Pv n σ H -> D.nx σ H) :
    ∃ W : Nat -> Nat -> St -> Hp -> Prop, (∃ m, W 0 m σ H) /\ ∀ i m σ H, W i m σ H ->
      ((Itr lo n).stop i H /\ D.nx σ H) \/ ((Itr lo n).go i H /\ ∃ N : St -> Hp -> Prop, (∀ σ' H', N σ' H' -> ∃ m', m' < m /\ W (i + 1) m' σ' H') /\ ∀ x H', (Itr lo n).yld i H x H' -> g x σ H' fun σ2 H2 => tb { D with nx := N, ct := N, bk := D.nx } σ2 H2) := by
  refine ⟨fun i m σ H => m = n - i /\ i <= n /\ Pv i σ H, ⟨n, by simp, Nat.zero_le _, h0⟩, ?_⟩
  rintro i m σ H ⟨rfl, hi, p⟩
  by_cases hlt : i < n
  · refine .inr ⟨hlt, Pv (i + 1), fun σ' H' p' => ⟨n - (i + 1), by omega, rfl, hlt, p'⟩, fun x H' y => ?_⟩
    obtain ⟨e, y⟩ := y
    subst e y
    exact hs i σ _ hlt p
  · have e : i = n := by omega
    subst e
    exact .inl ⟨Nat.le_refl _, hd σ H p⟩
end L2
namespace L2
open PySem PySem.Spec PyProof.Rows
noncomputable abbrev R2 := V -> V -> Hp -> VK -> Prop
noncomputable def OpR (X : Cx) (f : Value -> Value -> Sem Value) (r : R2) : Prop :=
  ∀ (pins : List (Addr × Obj)) (s : Shared) (σ : St) (H : Hp) (x y : V) (v u : Value) (Q : VK), Inv X pins σ H s -> RelV x v -> RelV y u -> r x y H Q ->
    wpAny (model X.prog X.w) X.A (f v u) (EP X pins σ Q) X.xe s
noncomputable def UnR (X : Cx) (f : Value -> Sem Value) (r : V -> Hp -> VK -> Prop) : Prop :=
  ∀ (pins : List (Addr × Obj)) (s : Shared) (σ : St) (H : Hp) (x : V) (v : Value) (Q : VK), Inv X pins σ H s -> RelV x v -> r x H Q ->
    wpAny (model X.prog X.w) X.A (f v) (EP X pins σ Q) X.xe s
noncomputable def CallR (X : Cx) (f : Value) (r : List V -> Hp -> VK -> Prop) : Prop :=
  ∀ (pins : List (Addr × Obj)) (s : Shared) (σ : St) (H : Hp) (xs : List V) (us : List Value) (Q : VK), Inv X pins σ H s -> Vals xs us -> r xs H Q ->
    wpAny (model X.prog X.w) X.A (call f us) (EP X pins σ Q) X.xe s
noncomputable def TruR (X : Cx) (r : V -> Hp -> (Bool -> Hp -> Prop) -> Prop) : Prop :=
  ∀ (pins : List (Addr × Obj)) (s : Shared) (σ : St) (H : Hp) (x : V) (v : Value) (Q : Bool -> Hp -> Prop), Inv X pins σ H s -> RelV x v -> r x H Q ->
    wpAny (model X.prog X.w) X.A (truthy v) (TP X pins σ Q) X.xe s
noncomputable def tOp (r : R2) (ta tb : TE) : TE := fun σ H Q => ta σ H fun x H1 => tb σ H1 fun y H2 => r x y H2 Q
noncomputable def tUn (r : V -> Hp -> VK -> Prop) (ta : TE) : TE := fun σ H Q => ta σ H fun x H1 => r x H1 Q
noncomputable def rI (C : Int -> Int -> Prop) (g : Int -> Int -> V) : R2 := fun x y H Q => ∃ i j, x = .int i /\ y = .int j /\ C i j /\ Q (g i j) H
noncomputable def rI0 (g : Int -> Int -> V) : R2 := fun x y H Q => ∃ i j, x = .int i /\ y = .int j /\ Q (g i j) H
noncomputable def rU (g : Int -> V) : V -> Hp -> VK -> Prop := fun x H Q => ∃ i, x = .int i /\ Q (g i) H
section
variable {X : Cx} {a b c : Expr} {ta tb tc : TE} {pos : Pos}
theorem binT (ha : PE X a ta) (hb : PE X b tb) {pins : List (Addr × Obj)} {s : Shared} {σ : St} {H : Hp} {R : V -> V -> Hp -> Prop} (I : Inv X pins σ H s)
    (h : ta σ H fun x H1 => tb σ H1 fun y H2 => R x y H2) {Q : Value -> Shared -> Prop} {f : Value -> Value -> Sem Value}
    (hf : ∀ v u s2 x y H2, Inv X pins σ H2 s2 -> RelV x v -> RelV y u -> R x y H2 -> wpAny (model X.prog X.w) X.A (f v u) Q X.xe s2) :
    wpAny (model X.prog X.w) X.A (eval a X.env) (fun v s₁ => wpAny (model X.prog X.w) X.A (eval b X.env) (fun u s₂ => wpAny (model X.prog X.w) X.A (f v u) Q X.xe s₂) X.xe s₁) X.xe s := by
  refine thn (ha pins s σ H _ I h) fun v s1 ⟨x, H1, I1, r1, q1⟩ => ?_
  refine thn (hb pins s1 σ H1 _ I1 q1) fun u s2 ⟨y, H2, I2, r2, q2⟩ => ?_
  exact hf v u s2 x y H2 I2 r1 r2 q2
theorem pe_op {op : Operator} {r : R2} (ho : OpR X (binaryOp op) r) (ha : PE X a ta) (hb : PE X b tb) : PE X (.BinOp a op b pos) (tOp r ta tb) := by
  intro pins s σ H Q I h
  exact wpAny_BinOp (binT ha hb I h fun v u s2 x y H2 I2 rx ry q => ho pins s2 σ H2 x y v u Q I2 rx ry q)
theorem pe_un {op : UnaryOp} {r : V -> Hp -> VK -> Prop} (ho : UnR X (unaryOp op) r) (ha : PE X a ta) : PE X (.UnaryOp op a pos) (tUn r ta) := by
  intro pins s σ H Q I h
  exact UnaryOp_ (thn (ha pins s σ H _ I h) fun v s1 ⟨x, H1, I1, r1, q1⟩ => ho pins s1 σ H1 x v Q I1 r1 q1)
theorem opI {f : Value -> Value -> Sem Value} {C : Int -> Int -> Prop} {g : Int -> Int -> Int}
    (rule : ∀ (i j : Int) (t u : Tok) (s : Shared) (Q : Value -> Shared -> Prop) (E : Value -> Shared -> Prop), C i j -> Q (.int (g i j) s.toks) { s with toks := s.toks + 1 } -> wpAny (model X.prog X.w) X.A (f (.int i t) (.int j u)) Q E s) :
    OpR X f (rI C fun i j => .int (g i j)) := by
  intro pins s σ H x y v u Q I rx ry h
  obtain ⟨i, j, rfl, rfl, hc, q⟩ := h
  obtain ⟨t, rfl⟩ := rx
  obtain ⟨t', rfl⟩ := ry
  exact rule i j t t' s _ _ hc ⟨.int (g i j), H, I.tok _, ⟨_, rfl⟩, q⟩
theorem opI0 {f : Value -> Value -> Sem Value} {g : Int -> Int -> Int}
    (rule : ∀ (i j : Int) (t u : Tok) (s : Shared) (Q : Value -> Shared -> Prop) (E : Value -> Shared -> Prop), Q (.int (g i j) s.toks) { s with toks := s.toks + 1 } -> wpAny (model X.prog X.w) X.A (f (.int i t) (.int j u)) Q E s) :
    OpR X f (rI0 fun i j => .int (g i j)) := by
  intro pins s σ H x y v u Q I rx ry h
  obtain ⟨i, j, rfl, rfl, q⟩ := h
  obtain ⟨t, rfl⟩ := rx
  obtain ⟨t', rfl⟩ := ry
  exact rule i j t t' s _ _ ⟨.int (g i j), H, I.tok _, ⟨_, rfl⟩, q⟩
theorem opB0 {f : Value -> Value -> Sem Value} {g : Int -> Int -> Bool}
    (rule : ∀ (i j : Int) (t u : Tok) (s : Shared) (Q : Value -> Shared -> Prop) (E : Value -> Shared -> Prop), Q (.bool (g i j)) s -> wpAny (model X.prog X.w) X.A (f (.int i t) (.int j u)) Q E s) :
    OpR X f (rI0 fun i j => .bl (g i j)) := by
  intro pins s σ H x y v u Q I rx ry h
  obtain ⟨i, j, rfl, rfl, q⟩ := h
  obtain ⟨t, rfl⟩ := rx
  obtain ⟨t', rfl⟩ := ry
  exact rule i j t t' s _ _ ⟨.bl (g i j), H, I, rfl, q⟩
noncomputable def CDiv (i j : Int) : Prop := 0 < j /\ j < 1073741824
noncomputable def CPow (i j : Int) : Prop := 0 <= j /\ j <= 1000000 /\ i.natAbs < 2 ^ 64
noncomputable def CMul (i j : Int) : Prop := (-(2 ^ 64) < i /\ i < 2 ^ 64) \/ (-(2 ^ 64) < j /\ j < 2 ^ 64)
theorem CMul.ok {i j : Int} (h : CMul i j) : IntMulOk i j := by
  rcases h with ⟨h1, h2⟩ | ⟨h1, h2⟩
  · exact .of_left (intBits_le_64 h1 h2)
  · exact .of_right (intBits_le_64 h1 h2)
theorem op_add : OpR X (binaryOp .Add) (rI0 fun i j => .int (i + j)) := opI0 fun _ _ _ _ _ _ _ q => add_int q
theorem op_sub : OpR X (binaryOp .Sub) (rI0 fun i j => .int (i - j)) := opI0 fun _ _ _ _ _ _ _ q => sub_int q
theorem op_mul : OpR X (binaryOp .Mult) (rI CMul fun i j => .int (i * j)) := opI fun _ _ _ _ _ _ _ hc q => mul_int q hc.ok
theorem op_fdiv : OpR X (binaryOp .FloorDiv) (rI CDiv fun i j => .int (i / j)) := opI fun i j _ _ _ _ _ hc q => by
  have h1 : (0 : Int) < j := hc.1
  have h2 : j < 1073741824 := hc.2
  exact floordiv_int (by omega) (by rw [Int.fdiv_eq_ediv_of_nonneg i (by omega)]; exact q) (.inl (PyProof.noPylong_small (by omega)))
theorem op_mod : OpR X (binaryOp .Mod) (rI (fun _ j => 0 < j) fun i j => .int (i % j)) := opI fun i j _ _ _ _ _ hc q => by
  have h1 : (0 : Int) < j := hc
  exact mod_int' (by omega) (by rw [Int.fmod_eq_emod_of_nonneg i (by omega)]; exact q)
theorem op_pow : OpR X (binaryOp .Pow) (rI CPow fun i j => .int (i ^ j.toNat)) := opI fun _ _ _ _ _ _ _ hc q => pow_int_small hc.1 hc.2.1 hc.2.2 q
theorem unI {f : Value -> Sem Value} {g : Int -> Int}
    (rule : ∀ (i : Int) (t : Tok) (s : Shared) (Q : Value -> Shared -> Prop) (E : Value -> Shared -> Prop), Q (.int (g i) s.toks) { s with toks := s.toks + 1 } -> wpAny (model X.prog X.w) X.A (f (.int i t)) Q E s) :
    UnR X f (rU fun i => .int (g i)) := by
  intro pins s σ H x v Q I rx h
  obtain ⟨i, rfl, q⟩ := h
  obtain ⟨t, rfl⟩ := rx
  exact rule i t s _ _ ⟨.int (g i), H, I.tok _, ⟨_, rfl⟩, q⟩
theorem un_neg : UnR X (unaryOp .USub) (rU fun i => .int (-i)) := unI fun _ _ _ _ _ q => neg_int q
end
noncomputable def scal : V -> V -> Bool
  | .non, .non => true | .non, .int _ => true | .int _, .non => true | .non, .bl _ => true | .bl _, .non => true | .non, .str _ => true | .str _, .non => true
  | .int _, .int _ => true | .bl _, .bl _ => true | .str _, .str _ => true | .byt _, .byt _ => true
  | .int _, .str _ => true | .str _, .int _ => true | .bl _, .str _ => true | .str _, .bl _ => true
  | _, _ => false
noncomputable def rEq : R2 := fun x y H Q => scal x y = true /\ Q (.bl (decide (x = y))) H
noncomputable def rNe : R2 := fun x y H Q => scal x y = true /\ Q (.bl (!decide (x = y))) H
theorem dec_int {i j : Int} : decide (V.int i = V.int j) = (i == j) := by
  rw [Bool.eq_iff_iff]
  simp
theorem dec_bl {i j : Bool} : decide (V.bl i = V.bl j) = (i == j) := by
  rw [Bool.eq_iff_iff]
  simp
theorem dec_str {i j : Str} : decide (V.str i = V.str j) = (i == j) := by
  rw [Bool.eq_iff_iff]
  simp
theorem dec_byt {i j : Array UInt8} : decide (V.byt i = V.byt j) = (i.toList == j.toList) := by
  rw [Bool.eq_iff_iff]
  cases i
  cases j
  simp
section
variable {X : Cx} {a b c : Expr} {ta tb tc : TE} {pos : Pos}
theorem fin_bl {pins : List (Addr × Obj)} {σ : St} {H : Hp} {s : Shared} {Q : VK} {k k' : Bool} (I : Inv X pins σ H s) (q : Q (.bl k) H) (e : k = k') : EP X pins σ Q (.bool k') s := by
  subst e
  exact ⟨.bl k, H, I, rfl, q⟩
theorem op_eq : OpR X (compareOp .Eq) rEq := by
  intro pins s σ H x y v u Q I rx ry h
  obtain ⟨hs, q⟩ := h
  cases x with
  | non =>
    cases rx
    cases y with
    | non => cases ry; exact PySem.EqNone.eq_none_none (fin_bl I q (by simp))
    | bl j => cases ry; exact PySem.EqNone.eq_none_bool (fin_bl I q (by simp))
    | int j => obtain ⟨t', rfl⟩ := ry; exact PySem.EqNone.eq_none_int (fin_bl I q (by simp))
    | str j => obtain ⟨t', rfl⟩ := ry; exact PySem.EqNone.eq_none_str (fin_bl I q (by simp))
    | _ => exact absurd (show false = true from hs) Bool.false_ne_true
  | bl i =>
    cases rx
    cases y with
    | non => cases ry; exact PySem.EqNone.eq_bool_none (fin_bl I q (by simp))
    | bl j => cases ry; exact eq_bool (fin_bl I q dec_bl)
    | str j => obtain ⟨t', rfl⟩ := ry; exact PySem.EqMixed.eq_bool_str (fin_bl I q (by simp))
    | _ => exact absurd (show false = true from hs) Bool.false_ne_true
  | int i =>
    obtain ⟨t, rfl⟩ := rx
    cases y with
    | non => cases ry; exact PySem.EqNone.eq_int_none (fin_bl I q (by simp))
    | int j => obtain ⟨t', rfl⟩ := ry; exact eq_int (fin_bl I q dec_int)
    | str j => obtain ⟨t', rfl⟩ := ry; exact PySem.EqMixed.eq_int_str (fin_bl I q (by simp))
    | _ => exact absurd (show false = true from hs) Bool.false_ne_true
  | str i =>
    obtain ⟨t, rfl⟩ := rx
    cases y with
    | non => cases ry; exact PySem.EqNone.eq_str_none (fin_bl I q (by simp))
    | bl j => cases ry; exact PySem.EqMixed.eq_str_bool (fin_bl I q (by simp))
    | int j => obtain ⟨t', rfl⟩ := ry; exact PySem.EqMixed.eq_str_int (fin_bl I q (by simp))
    | str j => obtain ⟨t', rfl⟩ := ry; exact eq_str (fin_bl I q dec_str)
    | _ => exact absurd (show false = true from hs) Bool.false_ne_true
  | byt i =>
    obtain ⟨t, rfl⟩ := rx
    cases y with
    | byt j => obtain ⟨t', rfl⟩ := ry; exact PySem.W.eq_bytes (fin_bl I q dec_byt)
    | _ => exact absurd (show false = true from hs) Bool.false_ne_true
  | _ => cases y <;> exact absurd (show false = true from hs) Bool.false_ne_true
theorem op_ne : OpR X (compareOp .NotEq) rNe := by
  intro pins s σ H x y v u Q I rx ry h
  obtain ⟨hs, q⟩ := h
  cases x with
  | non =>
    cases rx
    cases y with
    | non => cases ry; exact PySem.EqNone.ne_none_none (fin_bl I q (by simp))
    | bl j => cases ry; exact PySem.EqNone.ne_none_bool (fin_bl I q (by simp))
    | int j => obtain ⟨t', rfl⟩ := ry; exact PySem.EqNone.ne_none_int (fin_bl I q (by simp))
    | str j => obtain ⟨t', rfl⟩ := ry; exact PySem.EqNone.ne_none_str (fin_bl I q (by simp))
    | _ => exact absurd (show false = true from hs) Bool.false_ne_true
  | bl i =>
    cases rx
    cases y with
    | non => cases ry; exact PySem.EqNone.ne_bool_none (fin_bl I q (by simp))
    | bl j => cases ry; exact ne_bool (fin_bl I q (congrArg not dec_bl))
    | str j => obtain ⟨t', rfl⟩ := ry; exact PySem.EqMixed.ne_bool_str (fin_bl I q (by simp))
    | _ => exact absurd (show false = true from hs) Bool.false_ne_true
  | int i =>
    obtain ⟨t, rfl⟩ := rx
    cases y with
    | non => cases ry; exact PySem.EqNone.ne_int_none (fin_bl I q (by simp))
    | int j => obtain ⟨t', rfl⟩ := ry; exact ne_int (fin_bl I q (congrArg not dec_int))
    | str j => obtain ⟨t', rfl⟩ := ry; exact PySem.EqMixed.ne_int_str (fin_bl I q (by simp))
    | _ => exact absurd (show false = true from hs) Bool.false_ne_true
  | str i =>
    obtain ⟨t, rfl⟩ := rx
    cases y with
    | non => cases ry; exact PySem.EqNone.ne_str_none (fin_bl I q (by simp))
    | bl j => cases ry; exact PySem.EqMixed.ne_str_bool (fin_bl I q (by simp))
    | int j => obtain ⟨t', rfl⟩ := ry; exact PySem.EqMixed.ne_str_int (fin_bl I q (by simp))
    | str j => obtain ⟨t', rfl⟩ := ry; exact ne_str (fin_bl I q (congrArg not dec_str))
    | _ => exact absurd (show false = true from hs) Bool.false_ne_true
  | byt i =>
    obtain ⟨t, rfl⟩ := rx
    cases y with
    | byt j => obtain ⟨t', rfl⟩ := ry; exact PySem.W.ne_bytes (fin_bl I q (congrArg not dec_byt))
    | _ => exact absurd (show false = true from hs) Bool.false_ne_true
  | _ => cases y <;> exact absurd (show false = true from hs) Bool.false_ne_true
theorem op_lt : OpR X (compareOp .Lt) (rI0 fun i j => .bl (decide (i < j))) := opB0 fun _ _ _ _ _ _ _ q => lt_int q
theorem op_le : OpR X (compareOp .LtE) (rI0 fun i j => .bl (decide (i <= j))) := opB0 fun _ _ _ _ _ _ _ q => le_int q
theorem op_gt : OpR X (compareOp .Gt) (rI0 fun i j => .bl (decide (j < i))) := opB0 fun _ _ _ _ _ _ _ q => gt_int q
theorem op_ge : OpR X (compareOp .GtE) (rI0 fun i j => .bl (decide (j <= i))) := opB0 fun _ _ _ _ _ _ _ q => ge_int q
theorem op_lt_str : OpR X (compareOp .Lt) (fun x y H Q => ∃ i j, x = .str i /\ y = .str j /\ Q (.bl (decide (i.cps.toList < j.cps.toList))) H) := by
  intro pins s σ H x y v u Q I rx ry h
  obtain ⟨i, j, rfl, rfl, q⟩ := h
  obtain ⟨t, rfl⟩ := rx
  obtain ⟨t', rfl⟩ := ry
  exact lt_str (fin_bl I q rfl)
theorem op_in_str : OpR X (compareOp .In) (fun x y H Q => ∃ i j, x = .str i /\ y = .str j /\ Q (.bl (!(Builtin.Str.occurrences j i 0 j.length 1).isEmpty)) H) := by
  intro pins s σ H x y v u Q I rx ry h
  obtain ⟨i, j, rfl, rfl, q⟩ := h
  obtain ⟨t, rfl⟩ := rx
  obtain ⟨t', rfl⟩ := ry
  exact in_str (fin_bl I q rfl)
theorem op_isN : OpR X (compareOp .Is) (fun x y H Q => y = .non /\ Q (.bl (decide (x = .non))) H) := by
  intro pins s σ H x y v u Q I rx ry h
  obtain ⟨rfl, q⟩ := h
  cases ry
  refine is_none_gen (fin_bl I q ?_)
  cases x <;> first
    | (cases rx; rfl)
    | (obtain ⟨t, rfl⟩ := rx; rfl)
theorem op_notN : OpR X (compareOp .IsNot) (fun x y H Q => y = .non /\ Q (.bl (!decide (x = .non))) H) := by
  intro pins s σ H x y v u Q I rx ry h
  obtain ⟨rfl, q⟩ := h
  cases ry
  refine isnot_none_gen (fin_bl I q ?_)
  cases x <;> first
    | (cases rx; rfl)
    | (obtain ⟨t, rfl⟩ := rx; rfl)
theorem nomark (b : Expr) {op : CmpOp} (h : op ≠ .In := by decide) (h2 : op ≠ .NotIn := by decide) : behindInMarks op b = false := by
  have e1 : (op == CmpOp.In) = false := by cases op <;> first | rfl | exact absurd rfl h
  have e2 : (op == CmpOp.NotIn) = false := by cases op <;> first | rfl | exact absurd rfl h2
  cases b <;> simp [behindInMarks, e1, e2]
theorem pe_cmpR {op : CmpOp} {r : R2} (ho : OpR X (compareOp op) r) (ha : PE X a ta) (hb : PE X b tb) (hm : behindInMarks op b = false) : PE X (.Compare a [op] [b] pos) (tOp r ta tb) := by
  intro pins s σ H Q I h
  exact wpAny_Compare1 (binT ha hb I h fun v u s2 x y H2 I2 rx ry q => ho pins s2 σ H2 x y v u Q I2 rx ry q) hm
noncomputable def tTest (t : TE) : TT := fun σ H Q => t σ H fun x H' => ∃ k, x = .bl k /\ Q k H'
theorem pt_cmpR {op : CmpOp} {r : R2} (ho : OpR X (compareOp op) r) (ha : PE X a ta) (hb : PE X b tb) (hm : behindInMarks op b = false) : PT X (.Compare a [op] [b] pos) (tTest (tOp r ta tb)) := by
  intro pins s σ H Q I h
  refine wpAny_isTrue_Compare1 (thn (ha pins s σ H _ I h) fun v s1 ⟨x, H1, I1, r1, q1⟩ => thn (hb pins s1 σ H1 _ I1 q1) fun u s2 ⟨y, H2, I2, r2, q2⟩ =>
    thn (ho pins s2 σ H2 x y v u _ I2 r1 r2 q2) fun c s3 ⟨z, H3, I3, r3, k, e, q3⟩ => ?_) hm
  subst e
  cases r3
  exact wpAny_truthy_bool ⟨H3, I3, q3⟩
noncomputable def tChain (r r' : R2) (ta tb tc : TE) : TE := fun σ H Q => ta σ H fun x H1 => tb σ H1 fun y H2 => r x y H2 fun z H3 => ∃ k, z = .bl k /\
  (if k = true then tc σ H3 fun w' H4 => r' y w' H4 Q else Q (.bl false) H3)
theorem pt_chain {op op' : CmpOp} {r r' : R2} (ho : OpR X (compareOp op) r) (ho' : OpR X (compareOp op') r') (ha : PE X a ta) (hb : PE X b tb) (hc : PE X c tc)
    (hm : lastMarks [op, op'] [b, c] = false := by with_unfolding_all rfl) : PT X (.Compare a [op, op'] [b, c] pos) (tTest (tChain r r' ta tb tc)) := by
  intro pins s σ H Q I h
  refine isTrue_chain (thn (ha pins s σ H _ I h) fun v s1 ⟨x, H1, I1, r1, q1⟩ => test_link (thn (hb pins s1 σ H1 _ I1 q1) fun u s2 ⟨y, H2, I2, r2, q2⟩ =>
    thn (ho pins s2 σ H2 x y v u _ I2 r1 r2 q2) fun d s3 ⟨z, H3, I3, r3, k, e, q3⟩ => ?_)) hm
  subst e
  cases r3
  refine wpAny_truthy_bool ?_
  cases k with
  | false =>
    obtain ⟨k', e', q'⟩ := q3
    cases e'
    exact ite_ff ⟨H3, I3, q'⟩
  | true =>
    refine ite_tt (test_last (thn (hc pins s3 σ H3 _ I3 q3) fun w' s4 ⟨z', H4, I4, r4, q4⟩ => thn (ho' pins s4 σ H4 y z' u w' _ I4 r2 r4 q4) fun d' s5 ⟨z2, H5, I5, r5, k2, e2, q5⟩ => ?_))
    subst e2
    cases r5
    exact wpAny_truthy_bool ⟨H5, I5, q5⟩
noncomputable def TruV (K : PySem.W.Frag) (x : V) (H : Hp) (k : Bool) : Prop :=
  match x with
  | .non => k = false
  | .bl b => k = b
  | .int i => k = (i != 0)
  | .str y => y.length <= sizeLine /\ k = ((y.length : Int) != 0)
  | .byt y => y.size <= sizeLine /\ k = ((y.size : Int) != 0)
  | .ref p => (∃ xs, SqL K H p xs /\ k = !xs.isEmpty) \/ (∃ xs, SqT K H p xs /\ k = !xs.isEmpty) \/ ∃ kvs, H p = some (.dK kvs) /\ k = !kvs.isEmpty
  | _ => False
theorem isEmpty_kv {κ : Type} {kvs : List (κ × V)} {vs : List (κ × Value)} (r : KV kvs vs) : (!vs.isEmpty) = !kvs.isEmpty := by
  cases r <;> rfl
theorem isEmpty_of {xs : List V} {its : List Value} (r : Vals xs its) : (!its.toArray.isEmpty) = !xs.isEmpty := by
  cases r <;> simp
theorem line63 : (sizeLine : Nat) < 2 ^ 63 := by rw [sizeLine_eq]; decide
theorem tru_ok : TruR X (fun x H Q => ∃ k, TruV X.K x H k /\ Q k H) := by
  intro pins s σ H x v Q I rx h
  obtain ⟨k, e, q⟩ := h
  have hl := line63
  have hs : sizeLine = 16777216 := sizeLine_eq
  cases x with
  | non =>
    cases rx
    have e' : k = false := e
    subst e'
    exact truthy_none ⟨H, I, q⟩
  | bl b =>
    cases rx
    have e' : k = b := e
    subst e'
    exact wpAny_truthy_bool ⟨H, I, q⟩
  | int i =>
    obtain ⟨t, rfl⟩ := rx
    have e' : k = (i != 0) := e
    subst e'
    exact PySem.P.truthy_int ⟨H, I, q⟩
  | str y =>
    obtain ⟨t, rfl⟩ := rx
    obtain ⟨hy, e'⟩ : y.length <= sizeLine /\ k = ((y.length : Int) != 0) := e
    subst e'
    exact PySem.P.truthy_str (by omega) ⟨H, I.tok _, q⟩
  | byt y =>
    obtain ⟨t, rfl⟩ := rx
    obtain ⟨hy, e'⟩ : y.size <= sizeLine /\ k = ((y.size : Int) != 0) := e
    subst e'
    exact PySem.W.truthy_bytes (by omega) ⟨H, I.tok _, q⟩
  | ref p =>
    cases rx
    have e' : (∃ xs, SqL X.K H p xs /\ k = !xs.isEmpty) \/ (∃ xs, SqT X.K H p xs /\ k = !xs.isEmpty) \/ ∃ kvs, H p = some (.dK kvs) /\ k = !kvs.isEmpty := e
    rcases e' with ⟨xs, hx, e'⟩ | ⟨xs, hx, e'⟩ | ⟨kvs, hx, e'⟩
    · subst e'
      obtain ⟨its, r, pl, hz⟩ := I.list hx
      have hlen := r.length
      exact wpAny_truthy_list pl.isList (by simp only [List.size_toArray]; omega) ⟨H, I.tok _, by rw [isEmpty_of r]; exact q⟩
    · subst e'
      obtain ⟨its, r, pl, hz⟩ := I.tuple hx
      have hlen := r.length
      exact truthy_tuple pl (by simp only [List.size_toArray]; omega) ⟨H, I.tok _, by rw [isEmpty_of r]; exact q⟩
    · subst e'
      obtain ⟨hz, hS, vs, r, m⟩ : kvs.length <= sizeLine /\ (p == sysModules) = false /\ ∃ vs, KV kvs vs /\ s.heap.DictOf (mixKind X.prog X.w) p vs := I.hok p _ hx
      have hlen : kvs.length = vs.length := Paired.length r
      exact wpAny_truthy_dict hS m (by omega) ⟨H, I.tok _, by rw [isEmpty_kv r]; exact q⟩
  | _ => exact (show False from e).elim
theorem op_add_str : OpR X (binaryOp .Add) (fun x y H Q => ∃ i j, x = .str i /\ y = .str j /\ i.length + j.length <= sizeLine /\ Q (.str (i ++ j)) H) := by
  intro pins s σ H x y v u Q I rx ry h
  obtain ⟨i, j, rfl, rfl, hz, q⟩ := h
  obtain ⟨t, rfl⟩ := rx
  obtain ⟨t', rfl⟩ := ry
  exact add_str (fun t' tk => ⟨.str (i ++ j), H, I.tok _, ⟨_, rfl⟩, q⟩) hz
theorem vals1 {x : V} {us : List Value} (r : Vals [x] us) : ∃ u, us = [u] /\ RelV x u := by
  cases r with
  | cons r1 r2 => cases r2; exact ⟨_, rfl, r1⟩
theorem vals2 {x y : V} {us : List Value} (r : Vals [x, y] us) : ∃ u w', us = [u, w'] /\ RelV x u /\ RelV y w' := by
  cases r with
  | cons r1 r2 =>
    cases r2 with
    | cons r3 r4 => cases r4; exact ⟨_, _, rfl, r1, r3⟩
theorem call_max2 (hc : X.calm = true) : CallR X (.builtin "max") (fun xs H Q => ∃ i j, xs = [.int i, .int j] /\ Q (.int (if j > i then j else i)) H) := by
  intro pins s σ H xs us Q I r h
  obtain ⟨i, j, rfl, q⟩ := h
  obtain ⟨u, w', rfl, ⟨t, rfl⟩, ⟨t', rfl⟩⟩ := vals2 r
  refine max_two_ints (I.ok.hd hc) fun h' tk k => ⟨_, H, I.kept k, ?_, q⟩
  by_cases hj : j > i
  · rw [if_pos hj, if_pos hj]; exact ⟨_, rfl⟩
  · rw [if_neg hj, if_neg hj]; exact ⟨_, rfl⟩
theorem call_min2 (hc : X.calm = true) : CallR X (.builtin "min") (fun xs H Q => ∃ i j, xs = [.int i, .int j] /\ Q (.int (if j < i then j else i)) H) := by
  intro pins s σ H xs us Q I r h
  obtain ⟨i, j, rfl, q⟩ := h
  obtain ⟨u, w', rfl, ⟨t, rfl⟩, ⟨t', rfl⟩⟩ := vals2 r
  refine min_two_ints (I.ok.hd hc) fun h' tk k => ⟨_, H, I.kept k, ?_, q⟩
  by_cases hj : j < i
  · rw [if_pos hj, if_pos hj]; exact ⟨_, rfl⟩
  · rw [if_neg hj, if_neg hj]; exact ⟨_, rfl⟩
theorem call_int1 : CallR X (.type "int") (fun xs H Q => (∃ i, xs = [.int i] /\ Q (.int i) H) \/ ∃ k, xs = [.bl k] /\ Q (.int (if k then 1 else 0)) H) := by
  intro pins s σ H xs us Q I r h
  rcases h with ⟨i, rfl, q⟩ | ⟨k, rfl, q⟩
  · obtain ⟨u, rfl, t, rfl⟩ := vals1 r
    exact call_int_int ⟨.int i, H, I, ⟨_, rfl⟩, q⟩
  · obtain ⟨u, rfl, r1⟩ := vals1 r
    cases r1
    exact call_int_bool ⟨.int (if k then 1 else 0), H, I.tok _, ⟨_, rfl⟩, q⟩
end
end L2
namespace L2
open PySem PySem.Spec PyProof.Rows
structure ObjM (h : Heap) (x dx C : Addr) (mA : Str -> Option Value) : Prop where
  obj : h.get? x = some (PySem.W.instObj C dx)
  ns : h.Ns1 dx mA
  ne : dx ≠ x
theorem lookIn_ns {h : Heap} {dx : Addr} {mA : Str -> Option Value} (n : h.Ns1 dx mA) : ∃ od, h.get? dx = some od /\ ∀ name, PySem.W.lookIn name od = some (mA name) := by
  obtain ⟨o, es, ep, ho, hd, hk, _, hm⟩ := n
  refine ⟨o, ho, fun name => ?_⟩
  have e := hm name
  unfold nsFind findBy at e
  rw [<- Array.find?_toList] at e
  unfold PySem.W.lookIn
  rw [hd]
  dsimp only
  split
  · rename_i y q
    rw [q] at e
    exact congrArg some e
  · rename_i q
    rw [q] at e
    have a : es.toList.any (·.refKey) = false := by
      rw [List.any_eq_false]
      intro y hy
      obtain ⟨z, t, hkey⟩ := hk y (Array.mem_toList_iff.mp hy)
      simp [DictEntry.refKey, hkey]
    have a' : ¬ es.toList.any (·.refKey) = true := by rw [a]; exact Bool.false_ne_true
    rw [if_neg a']
    exact congrArg some e
theorem ObjM.look {h : Heap} {x dx C : Addr} {mA : Str -> Option Value} (I : ObjM h x dx C mA) : ∃ od, PySem.W.InstAt h x (PySem.W.instObj C dx) C (some od) /\ ∀ name, PySem.W.lookIn name od = some (mA name) :=
  let ⟨od, ho, hl⟩ := lookIn_ns I.ns
  ⟨od, ⟨I.obj, rfl, rfl, ho⟩, hl⟩
section
variable {prog : Program} {w : World} {A : Around} {E : Value -> Shared -> Prop} {s : Shared} {K : PySem.W.Frag} {x dx C f : Addr} {mA : Str -> Option Value} {name : Str} {v : Value}
end
theorem RelO.some_of {v : V} {o : Option Value} (r : RelO (some v) o) : ∃ u, o = some u /\ RelV v u := by
  cases o with
  | none => exact (show False from r).elim
  | some u => exact ⟨u, rfl, r⟩
section
variable {P : Program} {w : World} {H H' : Hp} {h h' : Heap} {a C dx : Addr} {fs fs' : List (Str × V)}
theorem ins_get (hok : HOk P w H h) (e : H a = some (.ins C dx fs)) : ∃ mA, ObjM h a dx C mA /\ (∀ f, RelO (fs.lookup f) (mA f)) /\ PySem.Within mA (fs.map (·.1)) /\ fs.length <= 1000 /\ H dx = some (.own a) := by
  obtain ⟨d, z, ne, ob, mA, n, r, q⟩ := (show ObjOk P w H h a (.ins C dx fs) from hok a _ e)
  exact ⟨mA, ⟨ob, n, ne⟩, r, q, z, d⟩
end
structure Cls (K : PySem.W.Frag) (C : Addr) : Prop where
  pg : PySem.W.plainGet K C Str.empty = true
  hd : PySem.W.hasDictIn K C = true
  po : PySem.W.plainOver K C = true
  sa : PySem.W.findIn K (.ref C) "__setattr__" = some (some (.builtin "object.__setattr__"))
theorem Cls.get {K : PySem.W.Frag} {C : Addr} (c : Cls K C) (f : Str) : PySem.W.plainGet K C f = true := c.pg
structure Con (K : PySem.W.Frag) (C : Addr) (f : Str) (v : V) (u : Value) : Prop where
  at_ : PySem.W.findIn K (.ref C) f = some (some u)
  rel : RelV v u
  get : PySem.W.specialIn K u "__get__" = some none
  cp : PySem.W.copiedNames.contains f = false
structure Meth (K : PySem.W.Frag) (C : Addr) (m : Str) (f : Addr) : Prop where
  at_ : PySem.W.findIn K (.ref C) m = some (some (.ref f))
  fn : PySem.W.isFn K (.ref f) = true
  kp : PySem.W.keepIn K (.ref f) = true
section
variable {X : Cx} {pins : List (Addr × Obj)} {σ : St} {H : Hp} {s : Shared} {a C dx : Addr} {fs : List (Str × V)} {f : Str} {v : V} {A : Around} {E : Value -> Shared -> Prop}
end
section
variable {X : Cx} {o e value : Expr} {f : Str} {pos pos' tpos : Pos} {ta tv : TE}
end
section
variable {X : Cx} {pins : List (Addr × Obj)} {σ : St} {H : Hp} {s : Shared} {A : Around} {E : Value -> Shared -> Prop} {Q : Value -> Shared -> Prop} {c : Value} {b : Bool}
inductive TyOf (K : PySem.W.Frag) (H : Hp) : V -> Value -> Prop where
  | non : TyOf K H .non (.type "NoneType")
  | bl (x : Bool) : TyOf K H (.bl x) (.type "bool")
  | int (i : Int) : TyOf K H (.int i) (.type "int")
  | str (x : Str) : TyOf K H (.str x) (.type "str")
  | flt (x : UInt64) : TyOf K H (.flt x) (.type "float")
  | lst {a : Addr} {xs : List V} (e : H a = some (.lst xs)) : TyOf K H (.ref a) (.type "list")
  | frz {a : Addr} {o : Obj} {xs : List V} (e : H a = some (.frz o (.lst xs))) : TyOf K H (.ref a) (.type "list")
  | tup {a : Addr} {xs : List V} (e : H a = some (.tup xs)) : TyOf K H (.ref a) (.type "tuple")
  | dK {a : Addr} {kvs : List (Key × V)} (e : H a = some (.dK kvs)) : TyOf K H (.ref a) (.type "dict")
  | dT {a : Addr} {kvs : List (List Key × V)} (e : H a = some (.dT kvs)) : TyOf K H (.ref a) (.type "dict")
  | ins {a C dx : Addr} {fs : List (Str × V)} (e : H a = some (.ins C dx fs)) (cl : Cls K C) (ha : PySem.W.findIn K (.ref C) "__class__" = some (some (.builtin "object.__class__")))
      (hn : PySem.W.specialIn K (.builtin "object.__class__") "__get__" = some (some (.builtin "getset_descriptor.__get__"))) (htk : PySem.W.takesIn K (.builtin "object.__class__") = some true)
      (hm : PySem.W.mroIn K C (.type "object") = some true) : TyOf K H (.ref a) (.ref C)
theorem isinst_ok {x : V} {u t : Value} (I : Inv X pins σ H s) (rx : RelV x u) (ty : TyOf X.K H x t) (e : PySem.W.kitOne X.K t c = some b) (h : ∀ tk, Q (.bool b) { s with toks := tk }) :
    wpAny (model X.prog X.w) A (call (.builtin "isinstance") [u, c]) Q E s := by
  cases ty with
  | non => cases (show u = Value.none from rx); exact PySem.W.kia_one PySem.W.kitx_none I.kIn True.intro e (fun z => nomatch z) h
  | bl y => cases (show u = Value.bool y from rx); exact PySem.W.kia_one PySem.W.kitx_bool I.kIn True.intro e (fun z => nomatch z) h
  | int i => obtain ⟨t, q⟩ := (show ∃ t, u = Value.int i t from rx); cases q; exact PySem.W.kia_one PySem.W.kitx_int I.kIn True.intro e (fun z => nomatch z) h
  | str y => obtain ⟨t, q⟩ := (show ∃ t, u = Value.str y t from rx); cases q; exact PySem.W.kia_one PySem.W.kitx_str I.kIn True.intro e (fun z => nomatch z) h
  | flt y => obtain ⟨t, q⟩ := (show ∃ t, u = Value.float y t from rx); cases q; exact PySem.W.kia_one PySem.W.kitx_float I.kIn True.intro e (fun z => nomatch z) h
  | @lst a xs ea =>
    cases (show u = Value.ref a from rx)
    obtain ⟨_, _, n, _, h1⟩ := (show ObjOk X.prog X.w H s.heap a (.lst xs) from I.hok a _ ea)
    exact PySem.W.kia_one PySem.W.kitx_list I.kIn ⟨_, h1, rfl⟩ e (fun z => nomatch z) h
  | @frz a ob xs ea =>
    cases (show u = Value.ref a from rx)
    obtain ⟨_, _, _, n, _, h1⟩ := (show ObjOk X.prog X.w H s.heap a (.frz ob (.lst xs)) from I.hok a _ ea)
    exact PySem.W.kia_one PySem.W.kitx_list I.kIn ⟨_, h1, rfl⟩ e (fun z => nomatch z) h
  | @tup a xs ea =>
    cases (show u = Value.ref a from rx)
    obtain ⟨_, _, _, p⟩ := (show ObjOk X.prog X.w H s.heap a (.tup xs) from I.hok a _ ea)
    obtain ⟨o, h1, h2, _⟩ := p
    exact PySem.W.kia_one PySem.W.kitx_tuple I.kIn ⟨o, h1, h2⟩ e (fun z => nomatch z) h
  | @dK a kvs ea =>
    cases (show u = Value.ref a from rx)
    obtain ⟨_, _, vs, _, p⟩ := (show ObjOk X.prog X.w H s.heap a (.dK kvs) from I.hok a _ ea)
    obtain ⟨o, es, ep, h1, h2, _⟩ := p
    exact PySem.W.kia_one PySem.W.kitx_dict I.kIn ⟨o, h1, h2.1⟩ e (fun z => nomatch z) h
  | @dT a kvs ea =>
    cases (show u = Value.ref a from rx)
    obtain ⟨_, _, xs, _, o, es, ep, h1, h2, _⟩ := (show ObjOk X.prog X.w H s.heap a (.dT kvs) from I.hok a _ ea)
    exact PySem.W.kia_one PySem.W.kitx_dict I.kIn ⟨o, h1, h2.1⟩ e (fun z => nomatch z) h
  | @ins a C dx fs ea cl ha hn htk hm =>
    cases (show u = Value.ref a from rx)
    obtain ⟨mA, O, _⟩ := ins_get I.hok ea
    obtain ⟨od, J, _⟩ := O.look
    exact PySem.W.kia_one (PySem.W.kitx_own (cl.get _) cl.hd ha hn htk hm) I.kIn J e (fun z => nomatch z) h
end
end L2
namespace L2
open PySem PySem.Spec PyProof.Rows
structure Room (k : Nat) (A : Around) : Prop where
  hd : A.handled = none
  dp : A.depth + 3 * k + 5 < recursionLimit
  un : A.units + 16 * k + 200 < cLine
  gd : A.guards = some []
theorem Room.mono {j k : Nat} {A : Around} (r : Room k A) (h : j <= k) : Room j A := ⟨r.hd, by have := r.dp; omega, by have := r.un; omega, r.gd⟩
theorem Room.deeper {k : Nat} {A : Around} (r : Room (k + 1) A) (env : Env) : Room k (A.deeper env) :=
  ⟨r.hd, by have := r.dp; show A.depth + 1 + 3 * k + 5 < _; omega, by have := r.un; show A.units + 3 + 16 * k + 200 < _; omega, r.gd⟩
theorem Room.depth {k : Nat} {A : Around} (r : Room k A) : A.depth < recursionLimit := by have := r.dp; omega
theorem Room.units {k : Nat} {A : Around} (r : Room k A) : A.units + 64 < cLine := by have := r.un; omega
noncomputable def tNil : TA := fun _ H Q => Q [] H
noncomputable def tCons (ta : TE) (tr : TA) : TA := fun σ H Q => ta σ H fun x H1 => tr σ H1 fun xs H2 => Q (x :: xs) H2
section
variable {X : Cx} {e : Expr} {es : List Expr} {te : TE} {t : TA} {pos : Pos}
theorem pa_nil : PA X [] tNil := fun _ _ _ _ H Q I h => Calls.spliced_nil ⟨[], H, I, .nil, h⟩
theorem pa_cons (ha : PE X e te) (hr : PA X es t) (hs : starEach (e :: es) X.env = (false, eval e X.env) :: starEach es X.env := by rfl) : PA X (e :: es) (tCons te t) := by
  intro pos pins s σ H Q I h
  rw [hs]
  show wpAny _ _ (spliced ((false, eval e X.env) :: backTo pos (starEach es X.env))) _ _ s
  refine Calls.spliced_cons (thn (ha pins s σ H _ I h) fun u s1 ⟨x, H1, I1, r1, q1⟩ => ?_)
  exact thn (hr pos pins s1 σ H1 _ I1 q1) fun us s2 ⟨xs, H2, I2, r2, q2⟩ => ⟨x :: xs, H2, I2, .cons r1 r2, q2⟩
noncomputable def tTup (t : TA) : TE := fun σ H Q => t σ H fun xs H1 => xs.length <= sizeLine /\ ∀ p, H1 p = none -> Q (.ref p) (upd H1 p (.tup xs))
noncomputable def tLst (t : TA) : TE := fun σ H Q => t σ H fun xs H1 => xs.length <= sizeLine /\ ∀ p, H1 p = none -> Q (.ref p) (upd H1 p (.lst xs))
theorem pe_tup {x1} (h : PA X es t) : PE X (.Tuple es x1 pos) (tTup t) := by
  intro pins s σ H Q I hq
  refine wpAny_Tuple_spliced (thn (h pos pins s σ H _ I hq) fun us s1 ⟨xs, H1, I1, r, z, q⟩ => ⟨by rw [<- r.length]; exact z, ?_⟩)
  have hf : H1 s1.heap.objs.size = none := I1.hok.fresh (Nat.le_refl _)
  refine ⟨.ref s1.heap.objs.size, upd H1 s1.heap.objs.size (.tup xs), I1.laid (t' := s1.toks) (fun b u e => Heap.get?_push_of_some _ e) (Nat.le_refl _) ?_, rfl, q _ hf⟩
  exact ⟨z, us, r, ⟨_, Heap.get?_push_size _ rfl, rfl, _, rfl⟩⟩
theorem pe_lst (h : PA X es t) : PE X (.List es pos) (tLst t) := by
  intro pins s σ H Q I hq
  refine wpAny_List_spliced (thn (h pos pins s σ H _ I hq) fun us s1 ⟨xs, H1, I1, r, z, q⟩ => ⟨by rw [<- r.length]; exact z, ?_⟩)
  have hf : H1 s1.heap.objs.size = none := I1.hok.fresh (Nat.le_refl _)
  refine ⟨.ref s1.heap.objs.size, upd H1 s1.heap.objs.size (.lst xs), I1.laid (t' := s1.toks) (fun b u e => Heap.get?_push_of_some _ e) (Nat.le_refl _) ?_, rfl, q _ hf⟩
  exact ⟨z, us, 0, r, Heap.get?_push_size _ rfl⟩
end
noncomputable abbrev Sp := List V -> Hp -> VK -> XK -> Prop
noncomputable abbrev CXT := List Env -> Hp -> Shared -> XK -> Value -> Shared -> Prop
structure Env0 (P : Program) (w : World) (K : PySem.W.Frag) (mg : Str -> Option Value) (base : Heap) (A : Around) (outer : List Env) (s : Shared) (H : Hp) : Prop where
  frames : A.frames = some outer
  mod : Mod K mg base
  bs : ∀ b o, base.get? b = some o -> s.heap.get? b = some o /\ H b = none
  bsz : base.objs.size <= s.heap.objs.size
  funs : s.heap.FunFrames base outer
  frf : ∀ b ∈ frs outer, H b = none
  hok : HOk P w H s.heap
  bare : AllBare s.gens
noncomputable def CE (outer : List Env) (P : Program) (w : World) (H : Hp) (s : Shared) (Q : VK) (u : Value) (s' : Shared) : Prop :=
  ∃ v H', s'.os = s.os /\ AllBare s'.gens /\ Un (frs outer) [] H H' s.heap s'.heap /\ HOk P w H' s'.heap /\ RelV v u /\ Q v H'
noncomputable def CR (CX : CXT) (outer : List Env) (P : Program) (w : World) (H : Hp) (s : Shared) (Q : VK) (E : XK) (r : Result) (s' : Shared) : Prop :=
  match r with
  | .ok (.ret u) => CE outer P w H s Q u s'
  | .ok _ => False
  | .error e => CX outer H s E e s'
structure FnOk (P : Program) (w : World) (K : PySem.W.Frag) (mg : Str -> Option Value) (base : Heap) (CX : CXT) (k : Nat) (f : Addr) (fd : FuncData) (ps : List Str) (sp : Sp) : Prop where
  len : ∀ vs H Q E, sp vs H Q E -> vs.length = ps.length
  run : ∀ (A : Around) (outer : List Env) (s : Shared) (H : Hp) (args : Args) (us : List Value) (vs : List V) (Q : VK) (E : XK), Room k A -> Env0 P w K mg base A outer s H -> BindsTo s fd args (ps.zip us) -> Vals vs us -> sp vs H Q E ->
    codeAny (model P w) A (.call (.ref f) args) (CR CX outer P w H s Q E) s
section
variable {X : Cx} {pins : List (Addr × Obj)} {σ : St} {H : Hp} {s s' : Shared}
theorem Inv.env0 (I : Inv X pins σ H s) : Env0 X.prog X.w X.K X.mg X.base X.A X.stack s H :=
  ⟨I.ok.frames, I.ok.mod, I.bs, Nat.le_trans I.ok.bsz I.sz, I.stack, I.stkFree, I.hok, I.bare⟩
theorem Inv.after {Q : VK} {u : Value} (I : Inv X pins σ H s) (h : CE X.stack X.prog X.w H s Q u s') : EP X pins σ Q u s' := by
  obtain ⟨v, H', os, bare, un, hok, r, q⟩ := h
  obtain ⟨hh, g, d, t, os'⟩ := s'
  obtain rfl : os' = s.os := os
  exact ⟨v, H', I.call (h' := hh) (g' := g) (d' := d) (t' := t) (ch := []) un hok bare (fun b z => absurd z (by simp)), r, q⟩
end
noncomputable def tCall (sp : Sp) (dvs : List V) (E : XK) (t : TA) : TE := fun σ H Q => t σ H fun vs H1 => sp (vs ++ dvs) H1 Q E
noncomputable def Binds (K : PySem.W.Frag) (fd : FuncData) (ps : List Str) (ds : List Value) : Prop :=
  ∀ (s : Shared) (us : List Value), K.In s.heap -> (us ++ ds).length = ps.length -> BindsTo s fd ⟨us, []⟩ (ps.zip (us ++ ds))
theorem Binds.all {K : PySem.W.Frag} {fd : FuncData} {ps : List Str} (h : ∀ us : List Value, us.length = ps.length -> bindArgs fd ⟨us, []⟩ = pure (ps.zip us)) : Binds K fd ps [] := fun s us _ hl => by
  rw [List.append_nil] at hl ⊢
  exact .of_eq (h us hl)
noncomputable def Passes (CX : CXT) (X : Cx) (E : XK) : Prop := ∀ (pins : List (Addr × Obj)) (σ : St) (H : Hp) (s : Shared) (e : Value) (s' : Shared), Inv X pins σ H s -> CX X.stack H s E e s' -> X.xe e s'
section
variable {X : Cx} {CX : CXT} {k : Nat} {f C : Addr} {fd : FuncData} {ps : List Str} {sp : Sp} {dvs : List V} {ds : List Value} {E : XK} {x m : Str} {p pos apos : Pos} {e o : Expr} {es : List Expr} {ta : TE} {t : TA}
theorem run_fn {pins : List (Addr × Obj)} {σ : St} {H : Hp} {s : Shared} {Q : VK} {us : List Value} {vs : List V} (F : FnOk X.prog X.w X.K X.mg X.base CX k f fd ps sp) (hr : Room k X.A) (hb : Binds X.K fd ps ds) (hd : Vals dvs ds) (hx : Passes CX X E)
    (I : Inv X pins σ H s) (r : Vals vs us) (h : sp (vs ++ dvs) H Q E) : wpAny (model X.prog X.w) X.A (call (.ref f) us) (EP X pins σ Q) X.xe s := by
  have r2 : Vals (vs ++ dvs) (us ++ ds) := r.append hd
  have hl : (us ++ ds).length = ps.length := by rw [<- r2.length]; exact F.len _ _ _ _ h
  refine wpAny_call (codeAny_mono (F.run X.A X.stack s H ⟨us, []⟩ (us ++ ds) (vs ++ dvs) Q E hr I.env0 (hb s us I.kIn hl) r2 h) fun r s' hq => ?_)
  cases r with
  | error e => exact hx pins σ H s e s' I hq
  | ok fl =>
    cases fl with
    | ret u => exact I.after hq
    | next => exact False.elim hq
    | brk => exact False.elim hq
    | cont => exact False.elim hq
theorem pe_call (F : FnOk X.prog X.w X.K X.mg X.base CX k f fd ps sp) (hr : Room k X.A) (hg : Gl X x) (hm : X.mg x = some (.ref f)) (hk : PySem.W.keepIn X.K (.ref f) = true) (hb : Binds X.K fd ps ds) (hd : Vals dvs ds) (hx : Passes CX X E)
    (ha : PA X (e :: es) t) (hdb : (x == ("__debug__" : Str)) = false := by decide) (he : starEach (e :: es) X.env = (false, eval e X.env) :: starEach es X.env := by rfl) (hpl : (backTo pos (starEach es X.env)).any (·.1) = false := by rfl) :
    PE X (.Call (.Name x p) (e :: es) [] pos) (tCall sp dvs E t) := by
  intro pins s σ H Q I h
  refine wpAny_Call_Name_kw (ld_glob I hg hm ?_ hdb)
  refine PySem.W.callWith_K (h₀ := X.base) I.ok.mod.kin hk (thn (ha pos pins s σ H _ I h) fun us s1 ⟨vs, H1, I1, r, q⟩ => ⟨I1.kIn, ?_⟩) he hpl
  exact run_fn F hr hb hd hx I1 r q
structure Mk (K : PySem.W.Frag) (C f : Addr) : Prop where
  makes : PySem.W.makesIn K C = true
  init : PySem.W.findIn K (.ref C) "__init__" = some (some (.ref f))
  fn : PySem.W.isFn K (.ref f) = true
  kp : PySem.W.keepIn K (.ref C) = true
end
section
variable {X : Cx} {CX : CXT} {k : Nat} {f C : Addr} {fd : FuncData} {ps ks : List Str} {sp : Sp} {E : XK} {x m : Str} {p pos apos kpos : Pos} {e o : Expr} {es : List Expr} {kws : List Keyword} {te ta : TE} {t tk : TA} {nm : Option Str}
structure KBinds (K : PySem.W.Frag) (fd : FuncData) (ps ks : List Str) (g : List Value -> List Value -> List Value) (gV : List V -> List V -> List V) : Prop where
  to : ∀ (s : Shared) (us ws : List Value), K.In s.heap -> (g us ws).length = ps.length -> BindsTo s fd ⟨us, ks.zip ws⟩ (ps.zip (g us ws))
  rel : ∀ {vs : List V} {us : List Value} {zs : List V} {ws : List Value}, Vals vs us -> Vals zs ws -> Vals (gV vs zs) (g us ws)
variable {g : List Value -> List Value -> List Value} {gV : List V -> List V -> List V}
end
structure FnScope (N P : List Str) (sc : Scope) : Prop where
  kind : sc.kind = .function
  co : sc.isCoroutine = false
  gen : sc.isGenerator = false
  nd : N.Nodup
  pre : N.take P.length = P
  par : ∀ x ∈ P, sc.names.lookup x = some .local \/ sc.names.lookup x = some .cell
  nofree : ∀ y ∈ sc.names, y.2 ≠ .free
theorem bindL_out {kindOf : Str -> Option NameKind} {x : Str} : ∀ {binds : List (Str × Value)} {m : Str -> Option Value}, (∀ v, (x, v) ∉ binds) -> bindL kindOf binds m x = m x
  | [], _, _ => rfl
  | (n, v) :: r, m, h => by
    unfold bindL
    rw [bindL_out fun w hw => h w (List.mem_cons_of_mem _ hw)]
    split
    · have : x ≠ n := by rintro rfl; exact h v List.mem_cons_self
      simp [this]
    · rfl
theorem bindC_out {kindOf : Str -> Option NameKind} {x : Str} : ∀ {binds : List (Str × Value)} {m : Str -> Option Value}, (∀ v, (x, v) ∉ binds) -> bindC kindOf binds m x = m x
  | [], _, _ => rfl
  | (n, v) :: r, m, h => by
    unfold bindC
    rw [bindC_out fun w hw => h w (List.mem_cons_of_mem _ hw)]
    split
    · rfl
    · have : x ≠ n := by rintro rfl; exact h v List.mem_cons_self
      simp [this]
theorem bindL_get {kindOf : Str -> Option NameKind} {x : Str} {v : Value} : ∀ {P : List Str} {vs : List Value} {i : Nat} {m : Str -> Option Value}, P.Nodup -> P[i]? = some x -> vs[i]? = some v -> kindOf x = some .local ->
    bindL kindOf (P.zip vs) m x = some v
  | [], _, _, _, _, h, _, _ => by simp at h
  | _ :: _, [], _, _, _, _, h, _ => by simp at h
  | p :: P, w :: vs, 0, m, nd, h1, h2, hk => by
    simp at h1 h2; subst h1; subst h2
    show bindL kindOf ((p, w) :: P.zip vs) m p = _
    unfold bindL
    rw [bindL_out fun v hv => (List.nodup_cons.mp nd).1 (List.of_mem_zip hv).1, if_pos hk]
    simp
  | p :: P, w :: vs, i + 1, m, nd, h1, h2, hk => by
    show bindL kindOf ((p, w) :: P.zip vs) m x = _
    unfold bindL
    exact bindL_get (i := i) (List.nodup_cons.mp nd).2 (by simpa using h1) (by simpa using h2) hk
theorem bindC_get {kindOf : Str -> Option NameKind} {x : Str} {v : Value} : ∀ {P : List Str} {vs : List Value} {i : Nat} {m : Str -> Option Value}, P.Nodup -> P[i]? = some x -> vs[i]? = some v -> kindOf x ≠ some .local ->
    bindC kindOf (P.zip vs) m x = some v
  | [], _, _, _, _, h, _, _ => by simp at h
  | _ :: _, [], _, _, _, _, h, _ => by simp at h
  | p :: P, w :: vs, 0, m, nd, h1, h2, hk => by
    simp at h1 h2; subst h1; subst h2
    show bindC kindOf ((p, w) :: P.zip vs) m p = _
    unfold bindC
    rw [bindC_out fun v hv => (List.nodup_cons.mp nd).1 (List.of_mem_zip hv).1, if_neg hk]
    simp
  | p :: P, w :: vs, i + 1, m, nd, h1, h2, hk => by
    show bindC kindOf ((p, w) :: P.zip vs) m x = _
    unfold bindC
    exact bindC_get (i := i) (List.nodup_cons.mp nd).2 (by simpa using h1) (by simpa using h2) hk
noncomputable def start (N : List Str) (vs : List V) : St := vs.map some ++ List.replicate (N.length - vs.length) none
noncomputable def cxOf (CX : CXT) (P : Program) (w : World) (K : PySem.W.Frag) (mg : Str -> Option Value) (base : Heap) (N : List Str) (qual : Str) (scope : Scope) (f : Addr) (cd : Value) (A : Around) (outer : List Env) (s : Shared) (H : Hp) (E : XK) : Cx where
  prog := P
  w := w
  K := K
  mg := mg
  base := base
  A := A.deeper (envOfC qual scope s.heap.objs.size f cd)
  N := N
  s₀ := s
  H₀ := H
  env := envOfC qual scope s.heap.objs.size f cd
  outer := outer
  stack := envOfC qual scope s.heap.objs.size f cd :: outer
  ex := []
  calm := true
  fn := fun _ => true
  pn := []
  xe := fun e s' => wpAny (model P w) (A.deeper (envOfC qual scope s.heap.objs.size f cd)) (leaving (envOfC qual scope s.heap.objs.size f cd) e) (fun _ s'' => CX outer H s E e s'') (fun e' s'' => CX outer H s E e' s'') s'
theorem cell_has {sc : Scope} {n : Nat} {x : Str} (h : sc.names.lookup x = some .cell) : ∃ c, (cellsFrom n sc.names []).lookup x = some c := by
  have q := PySem.W.cellsFrom_some sc.names n [] (.inl h)
  exact Option.isSome_iff_exists.mp q
theorem inv_start {CX : CXT} {P : Program} {w : World} {K : PySem.W.Frag} {mg : Str -> Option Value} {base : Heap} {N ps : List Str} {qual : Str} {scope : Scope} {f : Addr} {cd : Value} {A : Around} {outer : List Env} {s s1 : Shared} {H : Hp} {E : XK} {us : List Value} {vs : List V}
    (S : FnScope N ps scope) (hd : A.handled = none) (e0 : Env0 P w K mg base A outer s H) (hl : vs.length = ps.length) (r : Vals vs us)
    (x : InCallC s s.heap.objs.size (bindL (envOfC qual scope s.heap.objs.size f cd).kindOf (ps.zip us) fun _ => none) (cellsFrom (s.heap.objs.size + 1) scope.names []) (bindC (envOfC qual scope s.heap.objs.size f cd).kindOf (ps.zip us) fun _ => none) s1) :
    Inv (cxOf CX P w K mg base N qual scope f cd A outer s H E) [] (start N vs) H s1 := by
  have hpl : ps.length <= N.length := by have := congrArg List.length S.pre; rw [List.length_take] at this; omega
  obtain ⟨h1, tk, rfl, hk⟩ := x.done
  have noA : ∀ b : Addr, b ∉ (cxOf CX P w K mg base N qual scope f cd A outer s H E).ex := fun b z => absurd (show b ∈ ([] : List Addr) from z) (by simp)
  refine ⟨⟨e0.mod, S.kind, rfl, rfl, Nat.le_refl _, fun y z c h1 h2 => ?_, fun y hy => ?_, fun y c _ h => ?_, fun _ => hd, Around.frames_deeper e0.frames, .inr ⟨rfl, rfl⟩, fun b z => absurd z (noA b), e0.bs, e0.bsz, fun b _ _ => noA b, fun b z => absurd z (noA b), e0.funs, e0.frf⟩,
    rfl, e0.bare, Un.kept hk, ⟨_, x.toInCall.ns, fun i y v h1 h2 h3 => ?_⟩, fun y c h => ⟨_, x.cell y c h⟩, e0.hok.fresh (Nat.le_refl _), fun y c h => ?_, fun p hp => absurd (show p ∈ ([] : List (Addr × Obj)) from hp) (by simp), e0.hok.kept hk, ?_⟩
  · exact name_of_addr x.apart (PySem.mem_of_lookup h1) (PySem.mem_of_lookup h2)
  · have hy : scope.names.lookup y = some .cell \/ scope.names.lookup y = some .free := hy
    rcases hy with hy | hy
    · exact cell_has hy
    · exact absurd rfl (S.nofree _ (PySem.mem_of_lookup hy))
  · exact Nat.le_of_lt (x.above y c (PySem.mem_of_lookup h))
  · have hi : i < vs.length := by
      unfold start at h2
      by_cases hi : i < vs.length
      · exact hi
      · rw [List.getElem?_append_right (by simpa using hi)] at h2
        rw [List.getElem?_replicate] at h2
        split at h2 <;> cases h2
    have ha : vs[i]? = some v := by
      unfold start at h2
      rw [List.getElem?_append_left (by simpa using hi), List.getElem?_map] at h2
      cases e : vs[i]? with
      | none => rw [e] at h2; cases h2
      | some a => rw [e] at h2; cases h2; rfl
    obtain ⟨u, hu, rv⟩ := r.get ha
    have hp : ps[i]? = some y := by
      rw [<- S.pre, List.getElem?_take_of_lt (by omega)]; exact h1
    have ndP : ps.Nodup := by rw [<- S.pre]; exact S.nd.sublist (List.take_sublist _ _)
    refine ⟨u, rv, ?_⟩
    rcases S.par y (List.mem_of_getElem? hp) with k | k
    · exact .inl ⟨k, bindL_get ndP hp hu k⟩
    · obtain ⟨c, e⟩ := cell_has (n := s.heap.objs.size + 1) k
      refine .inr ⟨.inl k, c, e, ?_⟩
      have q := x.cell y c e
      rw [bindC_get ndP hp hu (by show scope.names.lookup y ≠ _; rw [k]; decide)] at q
      exact q
  · exact e0.hok.fresh (Nat.le_of_lt (x.above y c (PySem.mem_of_lookup h)))
  · unfold start
    show _ = N.length
    rw [List.length_append, List.length_map, List.length_replicate]
    omega
theorem fn_of {CX : CXT} {P : Program} {w : World} {K : PySem.W.Frag} {mg : Str -> Option Value} {base : Heap} {k : Nat} {f : Addr} {name qual : Str} {params : Arguments} {body : List Stmt} {scope : Scope} {dV kV doc pm cdv ct oc : Value} {an od : Option Addr}
    {osl : Array (Option Value)} {N ps : List Str} {sp : Sp} (lk : K.lookup f = some ⟨oc, od, .func (PySem.W.fnOf name qual params body scope dV kV doc pm an cdv ct), osl⟩) (hcd : PySem.W.codeIn K cdv qual = true) (S : FnScope N ps scope)
    (len : ∀ vs H Q E, sp vs H Q E -> vs.length = ps.length)
    (hbody : ∀ (A : Around) (outer : List Env) (s : Shared) (H : Hp) (vs : List V) (Q : VK) (E : XK), Room k (A.deeper (envOfC qual scope s.heap.objs.size f cdv)) -> sp vs H Q E ->
      ∃ t, PSs (cxOf CX P w K mg base N qual scope f cdv A outer s H E) body t /\ t { nx := fun _ H' => Q .non H', rt := Q } (start N vs) H) :
    FnOk P w K mg base CX (k + 1) f (PySem.W.fnOf name qual params body scope dV kV doc pm an cdv ct) ps sp := by
  refine ⟨len, fun A outer s H args us vs Q E hr e0 hb r hsp => ?_⟩
  have hl := len _ _ _ _ hsp
  have KX : K.In s.heap := e0.mod.kin.keeps fun b o e => (e0.bs b o e).1
  have lim : s.heap.NoLimit := e0.mod.nolimit.keeps fun b o e => (e0.bs b o e).1
  have hkind : ∀ y ∈ ps.zip us, scope.names.lookup y.1 = some .local \/ (scope.names.lookup y.1 = some .cell /\ ((cellsFrom (s.heap.objs.size + 1) scope.names []).lookup y.1).isSome = true) := fun ⟨n, v⟩ hy => by
    rcases S.par n (List.of_mem_zip hy).1 with q | q
    · exact .inl q
    · exact .inr ⟨q, PySem.W.cellsFrom_some _ _ _ (.inl q)⟩
  refine codeAny_call_function hr.depth (KX _ _ lk) rfl S.co S.gen rfl (PySem.W.codeRec_of KX hcd) (hb _ _ _ _ ?_)
  refine wpAny_newFunctionEnv_cells S.kind hkind fun env he s1 x => ?_
  subst he
  refine ⟨lim.keeps x.toInCall.keep, codeAny_func ?_⟩
  obtain ⟨t, ht, hq⟩ := hbody A outer s H vs Q E (hr.deeper _) hsp
  have I : Inv (cxOf CX P w K mg base N qual scope f cdv A outer s H E) [] (start N vs) H s1 := inv_start S hr.hd e0 hl r x
  refine wpAny_mono (ht [] s1 (start N vs) H _ I hq) (fun fl s' hs => ?_) fun e s' hs => hs
  have fin : ∀ {σ' : St} {H' : Hp} {v : V} {u : Value}, Inv (cxOf CX P w K mg base N qual scope f cdv A outer s H E) [] σ' H' s' -> RelV v u -> Q v H' -> CE outer P w H s Q u s' :=
    fun {σ' H' v u} J rv q => ⟨v, H', J.os, J.bare, J.base, J.hok, rv, q⟩
  cases fl with
  | ret u =>
    obtain ⟨v, σ', H', J, rv, q⟩ := hs
    exact fin J rv q
  | next =>
    obtain ⟨σ', H', J, q⟩ := hs
    exact fin (v := V.non) (u := Value.none) J rfl q
  | brk =>
    obtain ⟨_, _, _, q⟩ := hs
    exact False.elim q
  | cont =>
    obtain ⟨_, _, _, q⟩ := hs
    exact False.elim q
end L2
namespace L2
open PySem PySem.Spec PyProof.Rows
section
variable {X : Cx} {x : Str} {p pos : Pos} {e : Expr} {es : List Expr} {t : TA} {id T : String} {r : List V -> Hp -> VK -> Prop}
noncomputable def tCB (r : List V -> Hp -> VK -> Prop) (t : TA) : TE := fun σ H Q => t σ H fun vs H1 => r vs H1 Q
theorem pe_callB (hc : CallR X (.builtin id) r) (hg : Gl X x) (hm : X.mg x = none) (hv : bootBuiltins x = some (.builtin id)) (ha : PA X (e :: es) t) (hn : x ≠ "__name__" := by decide) (hdb : (x == ("__debug__" : Str)) = false := by decide)
    (he : starEach (e :: es) X.env = (false, eval e X.env) :: starEach es X.env := by rfl) (hpl : (backTo pos (starEach es X.env)).any (·.1) = false := by rfl) : PE X (.Call (.Name x p) (e :: es) [] pos) (tCB r t) := by
  intro pins s σ H Q I h
  refine wpAny_Call_Name_kw (ld_blt I hg hm hv ?_ hn hdb)
  exact PyProof.Rows.callWith_builtin1 (thn (ha pos pins s σ H _ I h) fun us s1 ⟨vs, H1, I1, r1, q1⟩ => hc pins s1 σ H1 vs us Q I1 r1 q1) he hpl
theorem pe_callTy (hc : CallR X (.type T) r) (hg : Gl X x) (hm : X.mg x = none) (hv : bootBuiltins x = some (.type T)) (ha : PA X (e :: es) t) (hn : x ≠ "__name__" := by decide) (hdb : (x == ("__debug__" : Str)) = false := by decide)
    (he : starEach (e :: es) X.env = (false, eval e X.env) :: starEach es X.env := by rfl) (hpl : (backTo pos (starEach es X.env)).any (·.1) = false := by rfl) : PE X (.Call (.Name x p) (e :: es) [] pos) (tCB r t) := by
  intro pins s σ H Q I h
  refine wpAny_Call_Name_kw (ld_blt I hg hm hv ?_ hn hdb)
  exact PyProof.Rows.callWith_type1 (thn (ha pos pins s σ H _ I h) fun us s1 ⟨vs, H1, I1, r1, q1⟩ => hc pins s1 σ H1 vs us Q I1 r1 q1) he hpl
end
end L2
namespace HT
open PySem PyProof.Rows
section
open PySem.SeqAt
open PySem.AutoSeq1 (wpAny_loadPart')
open PySem.MeetsSeq PySem.MeetsSeq2 PySem.MeetsSeq3
end
section
variable {prog : Program} {w : World} {A : Around} {E : Value -> Shared -> Prop} {s : Shared}
theorem cat_tup {t b : Addr} {vs ws : List Value} {Q : Value -> Shared -> Prop} (ht : IsTup s.heap t vs.toArray) (hb : IsTup s.heap b ws.toArray) (hv : vs ≠ [])
    (h1 : ws = [] -> Q (.ref t) s) (h2 : ws ≠ [] -> Q (.ref s.heap.objs.size) { s with heap := s.heap.push { cls := .type "tuple", data := .seq (vs ++ ws).toArray } })
    (hsz : vs.length + ws.length <= sizeLine) : wpAny (model prog w) A (binaryOp .Add (.ref t) (.ref b)) Q E s := by
  obtain ⟨⟨cls, dd, data, sl⟩, ho, hc, n, hd⟩ := id ht
  obtain ⟨⟨cls2, dd2, data2, sl2⟩, ho2, hc2, n2, hd2⟩ := id hb
  simp only at hc hd hc2 hd2
  subst hc hd hc2 hd2
  have e : vs.toArray ++ ws.toArray = (vs ++ ws).toArray := by simp
  by_cases hw : ws = []
  · exact concat_meets ⟨_, ho, rfl⟩ ⟨_, ho2, rfl⟩ noFill_tuple_add seq_tuple_add PySem.F.slot_tuple_add PySem.F.entry_tuple_add (PySem.F.args_tuple_add_2 _ _)
      (tuple_addW1 t b vs.toArray ws.toArray n n2 dd dd2 sl sl2 (by simpa using hv) (by simp [hw])) ⟨ho, ho2, h1 hw⟩
  · refine concat_meets ⟨_, ho, rfl⟩ ⟨_, ho2, rfl⟩ noFill_tuple_add seq_tuple_add PySem.F.slot_tuple_add PySem.F.entry_tuple_add (PySem.F.args_tuple_add_2 _ _)
      (tuple_addW2 t b vs.toArray ws.toArray n n2 dd dd2 sl sl2 (by simpa using hv) (by simpa using hw) (by rw [List.size_toArray, List.size_toArray]; exact hsz)) ⟨ho, ho2, ?_⟩
    rw [e]
    exact h2 hw
noncomputable def sIx (n d : Nat) : Option Int -> Nat
  | none => d
  | some v => if v < 0 then (v + (n : Int)).toNat else min v.toNat n
theorem sIx_none (n d : Nat) : sIx n d none = d := rfl
theorem sIx_nat (n d k : Nat) : sIx n d (some (k : Int)) = min k n := by
  show (if (k : Int) < 0 then ((k : Int) + (n : Int)).toNat else min (k : Int).toNat n) = min k n
  rw [if_neg (by omega), Int.toNat_natCast]
theorem sIx_le (n d : Nat) (hd : d <= n) (o : Option Int) : sIx n d o <= n := by
  cases o with
  | none => exact hd
  | some v =>
    show (if v < 0 then (v + (n : Int)).toNat else min v.toNat n) <= n
    by_cases hv : v < 0
    · rw [if_pos hv]; omega
    · rw [if_neg hv]; exact Nat.min_le_right _ _
theorem clip_eq (v : Int) (n d : Nat) : (if v < 0 then max (v + (n : Int)) 0 else min v (n : Int)) = ((sIx n d (some v) : Nat) : Int) := by
  show (if v < 0 then max (v + (n : Int)) 0 else min v (n : Int)) = (((if v < 0 then (v + (n : Int)).toNat else min v.toNat n) : Nat) : Int)
  by_cases hv : v < 0
  · simp only [if_pos hv]; omega
  · simp only [if_neg hv]; omega
theorem adjust_gen (lo hi : Option Int) (n : Nat) : Builtin.Slice.sliceAdjust lo hi 1 (n : Int) = (((sIx n 0 lo : Nat) : Int), ((sIx n n hi : Nat) : Int)) := by
  have h1 : ¬ ((1 : Int) < 0) := by omega
  unfold Builtin.Slice.sliceAdjust
  simp only [h1, if_false]
  refine Prod.ext ?_ ?_
  · cases lo with
    | none => rfl
    | some v => exact clip_eq v n 0
  · cases hi with
    | none => rfl
    | some v => exact clip_eq v n n
theorem places_gen (i j : Nat) : Builtin.Slice.slicePlaces (i : Int) (j : Int) 1 = j - i := by
  unfold Builtin.Slice.slicePlaces
  have h1 : (1 : Int) > 0 := by omega
  simp only [h1, if_true, Int.ediv_one]
  split <;> omega
theorem slicePart_ {v : Value} {o : Option Int} {Q : Option Int -> Shared -> Prop} (p : IsPart v o) (h : Q o s) : wpAny (model prog w) A (Builtin.Slice.slicePartIndex v) Q E s := by
  cases p with
  | none => exact slicePart_none h
  | int i t => exact slicePart_int h
theorem sliceApplied_gen {sl : Addr} {vl vu : Value} {lo hi : Option Int} {n : Nat} {Q : Int × Int × Nat -> Shared -> Prop} (hs : s.heap.IsSliceOf sl vl vu .none) (pl : IsPart vl lo) (pu : IsPart vu hi)
    (h : Q (((sIx n 0 lo : Nat) : Int), 1, sIx n n hi - sIx n 0 lo) s) : wpAny (model prog w) A (Builtin.Slice.sliceApplied (.ref sl) (pure (n : Int))) Q E s := by
  obtain ⟨os, hos, hcs, hds⟩ := id hs
  unfold Builtin.Slice.sliceApplied Builtin.Slice.sliceFields
  refine wpAny_bind (wpAny_bind (wpAny_field hos hds (x := vl) rfl (wpAny_bind (wpAny_field hos hds (x := vu) rfl (wpAny_bind (wpAny_field hos hds (x := .none) rfl (wpAny_pure ?_)))))))
  refine wpAny_bind (slicePart_none ?_)
  show wpAny _ _ (if ((1 : Int) == 0) = true then _ else _) _ _ s
  rw [if_neg (by decide)]
  refine wpAny_bind (slicePart_ pl (wpAny_bind (slicePart_ pu (wpAny_bind (wpAny_pure ?_)))))
  show wpAny _ _ (match Builtin.Slice.sliceAdjust lo hi 1 (n : Int) with | (lo, hi) => pure (lo, (1 : Int), Builtin.Slice.slicePlaces lo hi 1)) _ _ s
  rw [adjust_gen lo hi n]
  show wpAny _ _ (pure (((sIx n 0 lo : Nat) : Int), (1 : Int), Builtin.Slice.slicePlaces ((sIx n 0 lo : Nat) : Int) ((sIx n n hi : Nat) : Int) 1)) _ _ s
  rw [places_gen]
  exact wpAny_pure h
theorem pick_gen (xs : Array Value) (i k : Nat) : ((List.range k).filterMap fun (m : Nat) => xs[((i : Int) + (m : Int) * 1).toNat]?).toArray = ((xs.toList.drop i).take k).toArray := by
  have e : (fun (m : Nat) => xs[((i : Int) + (m : Int) * 1).toNat]?) = fun m => xs[i + m]? := by
    funext m
    have : ((i : Int) + (m : Int) * 1).toNat = i + m := by omega
    rw [this]
  rw [e]
  have := pick_run xs i k
  rw [List.filterMap_map] at this
  have e2 : ((fun x => xs[x]?) ∘ fun x => i + x) = fun m => xs[i + m]? := rfl
  rw [e2] at this
  rw [this]
theorem getItem_tuple_cut {t sl : Addr} {items : Array Value} {vl vu : Value} {lo hi : Option Int} {Q : Value -> Shared -> Prop} (ht : IsTup s.heap t items) (hs : s.heap.IsSliceOf sl vl vu .none) (pl : IsPart vl lo) (pu : IsPart vu hi)
    (hw : ¬ (sIx items.size 0 lo = 0 /\ sIx items.size items.size hi = items.size))
    (h : Q (.ref s.heap.objs.size) { s with heap := s.heap.push { cls := .type "tuple", data := .seq ((items.toList.drop (sIx items.size 0 lo)).take (sIx items.size items.size hi - sIx items.size 0 lo)).toArray } })
    (hsz : items.size <= sizeLine) : wpAny (model prog w) A (getItem (.ref t) (.ref sl)) Q E s := by
  have htake : sizeOk (.seq ((items.toList.drop (sIx items.size 0 lo)).take (sIx items.size items.size hi - sIx items.size 0 lo)).toArray) := by
    show ((items.toList.drop (sIx items.size 0 lo)).take (sIx items.size items.size hi - sIx items.size 0 lo)).toArray.size <= sizeLine
    rw [List.size_toArray, List.length_take, List.length_drop, Array.length_toList]
    omega
  have hj : sIx items.size items.size hi <= items.size := sIx_le _ _ (Nat.le_refl _) hi
  obtain ⟨os, hos, hcs, hds⟩ := id hs
  have hTs : s.TypeIs (.ref sl) "slice" := ⟨os, hos, hcs⟩
  unfold getItem
  try with_reducible refine wpAny_holding ?_
  first | refine wpAny_bind (wpAny_pure ?_) | skip
  refine wpAny_bind (wpAny_sequenceKey ht.typeIs (by decide) ?_)
  refine wpAny_bind (wpAny_callSpecial?_slot (name := Str.ofString "__getitem__") ht.typeIs PyProof.Rows.slot_tuple_getitem
    (wpAny_call_entry PyProof.Rows.slot_tuple_getitem ht.typeIs entry_tuple_getitem ?_ (args_tuple_getitem _ _)))
  show wpAny _ _ (Builtin.Tuple.tupleItemsOf (.ref t) >>= _) _ _ s
  refine wpAny_bind (tupleItemsOf_ ht ?_)
  refine wpAny_bind (wpAny_typeOf hTs ?_)
  rw [if_pos (by decide)]
  refine wpAny_bind (sliceApplied_gen hs pl pu ?_)
  have hno : ¬ ((((sIx items.size 0 lo : Nat) : Int) == 0 && (1 : Int) == 1 && (sIx items.size items.size hi - sIx items.size 0 lo) == items.size) = true) := by
    intro q
    rw [Bool.and_eq_true, Bool.and_eq_true] at q
    have q1 : ((sIx items.size 0 lo : Nat) : Int) = 0 := eq_of_beq q.1.1
    have q2 : sIx items.size items.size hi - sIx items.size 0 lo = items.size := eq_of_beq q.2
    exact hw ⟨by omega, by omega⟩
  show wpAny _ _ (if (((sIx items.size 0 lo : Nat) : Int) == 0 && (1 : Int) == 1 && (sIx items.size items.size hi - sIx items.size 0 lo) == items.size) = true then _ else _) _ _ s
  rw [if_neg hno, pick_gen]
  first
    | exact wpAny_bind (m := Builtin.Tuple.tupleExact _) (wpAny_newObj_type (wpAny_pure ⟨_, rfl, wpAny_pure h⟩) htake)
    | exact wpAny_bind (m := Builtin.Tuple.tupleExact _) (wpAny_newObj_type (wpAny_bind (wpAny_pure (wpAny_pure ⟨_, rfl, wpAny_pure h⟩))) htake)
    | exact wpAny_bind (wpAny_bind (m := Builtin.Tuple.tupleExact _) (wpAny_newObj_type (wpAny_pure (wpAny_pure ⟨_, rfl, wpAny_pure h⟩)) htake))
    | exact wpAny_bind (wpAny_bind (m := Builtin.Tuple.tupleExact _) (wpAny_newObj_type (wpAny_pure ⟨_, rfl, wpAny_pure h⟩) htake))
end
end HT
namespace L2
open PySem PySem.Spec PyProof.Rows
noncomputable abbrev TO := St -> Hp -> (Option Int -> Hp -> Prop) -> Prop
noncomputable def PO (X : Cx) (e : Option Expr) (t : TO) : Prop :=
  ∀ (pins : List (Addr × Obj)) (s : Shared) (σ : St) (H : Hp) (Q : Option Int -> Hp -> Prop), Inv X pins σ H s -> t σ H Q ->
    wpAny (model X.prog X.w) X.A (evalPart e X.env) (fun u s' => ∃ o H', Inv X pins σ H' s' /\ IsPart u o /\ Q o H') X.xe s
noncomputable def tNoPart : TO := fun _ H Q => Q none H
noncomputable def tPart (t : TE) : TO := fun σ H Q => t σ H fun x H1 => ∃ i, x = .int i /\ Q (some i) H1
section
variable {X : Cx} {e : Expr} {te : TE} {lo hi : Option Expr} {tl th : TO} {pos p2 : Pos}
theorem po_none : PO X none tNoPart := by
  intro pins s σ H Q I h
  rw [evalPart_none]
  exact wpAny_pure ⟨none, H, I, .none, h⟩
theorem po_some (h : PE X e te) : PO X (some e) (tPart te) := by
  intro pins s σ H Q I hw
  rw [evalPart_some]
  refine thn (h pins s σ H _ I hw) fun u s1 ⟨x, H1, I1, r1, q1⟩ => ?_
  obtain ⟨i, rfl, q⟩ := q1
  obtain ⟨t, rfl⟩ := r1
  exact ⟨some i, H1, I1, .int i t, q⟩
noncomputable def SlR (X : Cx) (r : V -> Option Int -> Option Int -> Hp -> VK -> Prop) : Prop :=
  ∀ (pins : List (Addr × Obj)) (s : Shared) (σ : St) (H : Hp) (x : V) (v vl vu : Value) (lo hi : Option Int) (sl : Addr) (Q : VK), Inv X pins σ H s -> RelV x v -> s.heap.IsSliceOf sl vl vu .none -> IsPart vl lo -> IsPart vu hi -> r x lo hi H Q ->
    ∃ T id, typeLookup (.type T) "__getitem__" = pure (some (.builtin id)) /\ s.TypeIs v T /\ wpAny (model X.prog X.w) X.A (getItem v (.ref sl)) (EP X pins σ Q) X.xe s
noncomputable def tSl (r : V -> Option Int -> Option Int -> Hp -> VK -> Prop) (te : TE) (tl th : TO) : TE := fun σ H Q => te σ H fun x H1 => tl σ H1 fun l H2 => th σ H2 fun u H3 => r x l u H3 Q
theorem pe_slice {r : V -> Option Int -> Option Int -> Hp -> VK -> Prop} (hr : SlR X r) (he : PE X e te) (hl : PO X lo tl) (hu : PO X hi th) : PE X (.Subscript e (.Slice lo hi none p2) pos) (tSl r te tl th) := by
  intro pins s σ H Q I h
  refine Subscript_ (thn (he pins s σ H _ I h) fun v s1 ⟨x, H1, I1, r1, q1⟩ => ?_)
  refine wpAny_Slice (thn (hl pins s1 σ H1 _ I1 q1) fun vl s2 ⟨l, H2, I2, pl, q2⟩ => thn (hu pins s2 σ H2 _ I2 q2) fun vu s3 ⟨u, H3, I3, pu, q3⟩ => ?_)
  rw [evalPart_none]
  refine wpAny_pure ?_
  have I4 : Inv X pins σ H3 { s3 with heap := s3.heap.push { cls := .type "slice", data := .fields #[vl, vu, .none] } } := I3.kept (t' := s3.toks) fun b ob q => Heap.get?_push_of_some _ q
  obtain ⟨T, id, hT, ht, hg⟩ := hr pins { s3 with heap := s3.heap.push { cls := .type "slice", data := .fields #[vl, vu, .none] } } σ H3 x v vl vu l u s3.heap.objs.size Q I4 r1 (Heap.IsSliceOf.new ..) pl pu q3
  show wpAny (model X.prog X.w) X.A (subscriptTail e (.Slice lo hi none p2) v (.ref s3.heap.objs.size)) (EP X pins σ Q) X.xe { s3 with heap := s3.heap.push { cls := .type "slice", data := .fields #[vl, vu, .none] } }
  exact tail_any (ops := [.ref s3.heap.objs.size, v]) ht hT hg (by with_unfolding_all rfl)
noncomputable def cutV (xs : List V) (lo hi : Option Int) : List V := (xs.drop (HT.sIx xs.length 0 lo)).take (HT.sIx xs.length xs.length hi - HT.sIx xs.length 0 lo)
theorem cutV_length (xs : List V) (lo hi : Option Int) : (cutV xs lo hi).length <= xs.length := by
  unfold cutV
  rw [List.length_take, List.length_drop]
  omega
theorem Vals.nil_iff {xs : List V} {us : List Value} (r : Vals xs us) : us = [] ↔ xs = [] := by
  cases r with
  | nil => simp
  | cons _ _ => simp
end
end L2
namespace L2
open PySem PySem.Spec PyProof.Rows
noncomputable def ixN (n : Nat) (i : Int) : Option Nat := if 0 <= i then (if i < n then some i.toNat else none) else if -(n : Int) <= i then some (i + n).toNat else none
noncomputable def atI {α : Type} (xs : List α) (i : Int) : Option α := (ixN xs.length i).bind fun j => xs[j]?
theorem ixN_seq {n : Nat} {i : Int} {j : Nat} (h : ixN n i = some j) : seqIndex? i n = some j /\ j < n /\ -(n : Int) <= i /\ i < n := by
  unfold ixN at h
  by_cases h0 : 0 <= i
  · rw [if_pos h0] at h
    by_cases h1 : i < n
    · rw [if_pos h1] at h
      have e : i.toNat = j := Option.some.inj h
      exact ⟨by rw [seqIndex_of h0 h1, e], by omega, by omega, h1⟩
    · rw [if_neg h1] at h; cases h
  · rw [if_neg h0] at h
    by_cases h1 : -(n : Int) <= i
    · rw [if_pos h1] at h
      have e : (i + n).toNat = j := Option.some.inj h
      exact ⟨by rw [seqIndex_neg (by omega) h1, e], by omega, h1, by omega⟩
    · rw [if_neg h1] at h; cases h
theorem atI_get {α : Type} {xs : List α} {i : Int} {v : α} (h : atI xs i = some v) : ∃ j, seqIndex? i xs.length = some j /\ xs[j]? = some v /\ j < xs.length /\ -(xs.length : Int) <= i /\ i < xs.length := by
  unfold atI at h
  cases e : ixN xs.length i with
  | none => rw [e] at h; cases h
  | some j =>
    rw [e] at h
    obtain ⟨h1, h2, h3, h4⟩ := ixN_seq e
    exact ⟨j, h1, h, h2, h3, h4⟩
theorem atI_nat {α : Type} {xs : List α} {j : Nat} {v : α} (h : xs[j]? = some v) : atI xs (j : Int) = some v := by
  have hj : j < xs.length := (List.getElem?_eq_some_iff.mp h).1
  have e : ixN xs.length (j : Int) = some j := by
    unfold ixN
    rw [if_pos (by omega), if_pos (by omega)]; simp
  unfold atI; rw [e]; exact h
theorem atI_last {α : Type} (xs : List α) (v : α) : atI (xs ++ [v]) (-1) = some v := by
  have hl : (xs ++ [v]).length = xs.length + 1 := by simp
  have e : ixN (xs ++ [v]).length (-1) = some xs.length := by
    unfold ixN
    rw [hl, if_neg (by decide), if_pos (by omega)]
    congr 1
    omega
  unfold atI
  rw [e]
  show (xs ++ [v])[xs.length]? = some v
  simp
noncomputable def PlainIx (b : Expr) : Prop := ∀ o i, subscripted b false o i = operate [o, i] (getItem o i)
noncomputable def IxR (X : Cx) (r : R2) : Prop :=
  ∀ (value slice : Expr) (pins : List (Addr × Obj)) (s : Shared) (σ : St) (H : Hp) (x y : V) (v u : Value) (Q : VK), Inv X pins σ H s -> RelV x v -> RelV y u -> r x y H Q ->
    subscripted slice false v u = operate [v, u] (getItem v u) -> wpAny (model X.prog X.w) X.A (subscriptTail value slice v u) (EP X pins σ Q) X.xe s
noncomputable def MtR (X : Cx) (id : String) (r : V -> List V -> Hp -> VK -> Prop) : Prop :=
  ∀ (pins : List (Addr × Obj)) (s : Shared) (σ : St) (H : Hp) (x : V) (xs : List V) (v : Value) (us : List Value) (Q : VK), Inv X pins σ H s -> RelV x v -> Vals xs us -> r x xs H Q ->
    wpAny (model X.prog X.w) X.A (call (.builtin id) (v :: us)) (EP X pins σ Q) X.xe s
section
variable {X : Cx} {a b : Expr} {ta tb : TE} {pos : Pos}
theorem pe_ix {r : R2} (hr : IxR X r) (ha : PE X a ta) (hb : PE X b tb) (hs : PlainIx b) : PE X (.Subscript a b pos) (tOp r ta tb) := by
  intro pins s σ H Q I h
  exact Subscript_ (binT ha hb I h fun v u s2 x y H2 I2 rx ry q => hr a b pins s2 σ H2 x y v u Q I2 rx ry q (hs _ _))
noncomputable def rIxL (K : PySem.W.Frag) : R2 := fun x y H Q => ∃ p xs i v, x = .ref p /\ y = .int i /\ SqL K H p xs /\ atI xs i = some v /\ Q v H
noncomputable def rIxT (K : PySem.W.Frag) : R2 := fun x y H Q => ∃ p xs i v, x = .ref p /\ y = .int i /\ SqT K H p xs /\ atI xs i = some v /\ Q v H
noncomputable def rIxS : R2 := fun x y H Q => ∃ z i c, x = .str z /\ y = .int i /\ z.length <= sizeLine /\ atI z.cps.toList i = some c /\ Q (.str ⟨#[c]⟩) H
theorem ix_list : IxR X (rIxL X.K) := by
  intro value slice pins s σ H x y v u Q I rx ry h hs
  obtain ⟨p, xs, i, z, rfl, rfl, hq, he, q⟩ := h
  cases rx
  obtain ⟨t, rfl⟩ := ry
  obtain ⟨its, r, pl, hz⟩ := I.list hq
  obtain ⟨j, h1, h2, h3, h4, h5⟩ := atI_get he
  obtain ⟨w, ew, rw'⟩ := r.get h2
  have hl := r.length
  have hn := line63
  have fin : EP X pins σ Q w s := ⟨z, H, I, rw', q⟩
  by_cases h0 : 0 <= i
  · have hj : i.toNat = j := by
      rw [seqIndex_of h0 h5] at h1
      exact Option.some.inj h1
    exact item_listR pl.isList h0 (by omega) (by rw [hj]; simpa using ew) fin hs
  · have hj : (i + (its.toArray.size : Int)).toNat = j := by
      rw [seqIndex_neg (by omega) h4] at h1
      rw [List.size_toArray, <- hl]
      exact Option.some.inj h1
    exact subscriptTail_builtinR (x := w) pl.isList.typeIs slot_list_getitem.lookup
      (wpAny_getItem_list_neg (Q := fun r s' => r = w /\ EP X pins σ Q r s') pl.isList (by omega) (by rw [List.size_toArray] <;> omega) (by omega) (by rw [hj]; simpa using ew) ⟨rfl, fin⟩) hs
theorem ix_tup : IxR X (rIxT X.K) := by
  intro value slice pins s σ H x y v u Q I rx ry h hs
  obtain ⟨p, xs, i, z, rfl, rfl, hq, he, q⟩ := h
  cases rx
  obtain ⟨t, rfl⟩ := ry
  obtain ⟨its, r, pl, hz⟩ := I.tuple hq
  obtain ⟨j, h1, h2, h3, h4, h5⟩ := atI_get he
  obtain ⟨w, ew, rw'⟩ := r.get h2
  have hl := r.length
  have hn := line63
  have fin : EP X pins σ Q w s := ⟨z, H, I, rw', q⟩
  exact subscriptTail_builtinR (x := w) pl.typeIs slot_tuple_getitem.lookup
    (getItem_tuple (j := j) (Q := fun r s' => r = w /\ EP X pins σ Q r s') pl (by omega) (by omega) (by rw [List.size_toArray, <- hl]; exact h1) (by simpa using ew) ⟨rfl, fin⟩) hs
theorem ix_str : IxR X rIxS := by
  intro value slice pins s σ H x y v u Q I rx ry h hs
  obtain ⟨z, i, c, rfl, rfl, hz, he, q⟩ := h
  obtain ⟨t, rfl⟩ := rx
  obtain ⟨t', rfl⟩ := ry
  obtain ⟨j, h1, h2, h3, h4, h5⟩ := atI_get he
  have hl : z.cps.toList.length = z.length := by simp [Str.length]
  rw [hl] at h1 h4 h5
  have hn := line63
  exact tail_any (typeIs_str s z t) slot_str_getitem.lookup (getItem_str (c := c) (by
    have e1 : decide (i < -(2 ^ 63 : Int)) = false := decide_eq_false (by omega)
    have e2 : decide (i ≥ 2 ^ 63) = false := decide_eq_false (by omega)
    rw [e1, e2, Bool.or_false]) (by rw [h1]; simpa using h2) ⟨.str ⟨#[c]⟩, H, I.tok _, ⟨_, rfl⟩, q⟩) hs
theorem mapSeq_set (its : List Value) (n j : Nat) (u : Value) : Obj.mapSeq (·.setIfInBounds j u) { cls := .type "list", data := .seq its.toArray n } = { cls := .type "list", data := .seq (its.set j u).toArray n } := by
  simp [Obj.mapSeq]
theorem Inv.lst {pins : List (Addr × Obj)} {σ : St} {H : Hp} {s : Shared} {p : Addr} {xs : List V} (I : Inv X pins σ H s) (h : H p = some (.lst xs)) :
    ∃ (its : List Value) (n : Nat), Vals xs its /\ s.heap.get? p = some { cls := .type "list", data := .seq its.toArray n } /\ xs.length <= sizeLine := by
  obtain ⟨z, its, n, r, e⟩ := I.hok p _ h
  exact ⟨its, n, r, e, z⟩
theorem Inv.lstUpd {pins : List (Addr × Obj)} {σ : St} {H : Hp} {s : Shared} {p : Addr} {xs ys : List V} {its its' : List Value} {n n' : Nat} {f : Obj -> Obj} (I : Inv X pins σ H s) (h : H p = some (.lst xs))
    (ho : s.heap.get? p = some { cls := .type "list", data := .seq its.toArray n }) (hf : f { cls := .type "list", data := .seq its.toArray n } = { cls := .type "list", data := .seq its'.toArray n' }) (r : Vals ys its') (hz : ys.length <= sizeLine) (t : Nat) :
    Inv X pins σ (upd H p (.lst ys)) { s with heap := s.heap.update p f, toks := t } := by
  have e : (s.heap.update p f).get? p = some { cls := .type "list", data := .seq its'.toArray n' } := by
    rw [Heap.get?_update_self f ho (by rw [hf] <;> rfl), hf]
  refine I.write (x := p) (e := p) (by rw [h]; trivial) (.inl rfl) (fun b u hb q => (Heap.get?_update_other _ _ (Ne.symm hb)).trans q) ⟨_, e⟩ ?_
  exact ⟨hz, its', n', r, e⟩
noncomputable def rSetL : V -> V -> V -> Hp -> (Hp -> Prop) -> Prop := fun o i v H Q => ∃ p xs k j, o = .ref p /\ i = .int k /\ H p = some (.lst xs) /\ ixN xs.length k = some j /\ Q (upd H p (.lst (xs.set j v)))
theorem set_list : PSet X rSetL := by
  intro pins s σ H o i v ov iv u Q I ro ri rv h
  obtain ⟨p, xs, k, j, rfl, rfl, hp, hj, q⟩ := h
  cases ro
  obtain ⟨t, rfl⟩ := ri
  obtain ⟨its, n, r, ho, hz⟩ := I.lst hp
  obtain ⟨h1, h2, h3, h4⟩ := ixN_seq hj
  have hl := r.length
  have hn := line63
  have I' : Inv X pins σ (upd H p (.lst (xs.set j v))) { s with heap := s.heap.update p (Obj.mapSeq (·.setIfInBounds j u)) } :=
    I.lstUpd hp ho (mapSeq_set its n j u) (r.set rv j) (by rw [List.length_set]; exact hz) s.toks
  by_cases h0 : 0 <= k
  · have hk : k.toNat = j := by
      rw [seqIndex_of h0 h4] at h1
      exact Option.some.inj h1
    exact PySem.W.ki_setAt ho h0 (by omega) (by rw [List.size_toArray, <- hl]; exact h4) (by rw [hk]; exact ⟨_, I', q⟩)
  · have hk : (k + (its.toArray.size : Int)).toNat = j := by
      rw [seqIndex_neg (by omega) h3] at h1
      rw [List.size_toArray, <- hl]
      exact Option.some.inj h1
    exact PySem.W.ki_setBack ho (by omega) (by rw [List.size_toArray, <- hl]; exact h3) (by omega) (by rw [hk]; exact ⟨_, I', q⟩)
theorem slice_bounds (lo hi : Option Int) (n : Nat) : (sliceBounds lo hi none n).1 = ((HT.sIx n 0 lo : Nat) : Int) /\ (sliceBounds lo hi none n).2.1 = ((HT.sIx n n hi : Nat) : Int) /\ (sliceBounds lo hi none n).2.2 = 1 := by
  refine ⟨?_, ?_, rfl⟩
  · cases lo with
    | none => simp [sliceBounds, HT.sIx]
    | some i =>
      simp only [sliceBounds, HT.sIx, Option.getD_none, show (1 : Int) > 0 by decide, if_true]
      by_cases h : i < 0
      · simp only [h, if_true] <;> omega
      · simp only [h, if_false] <;> omega
  · cases hi with
    | none => simp [sliceBounds, HT.sIx]
    | some i =>
      simp only [sliceBounds, HT.sIx, Option.getD_none, show (1 : Int) > 0 by decide, if_true]
      by_cases h : i < 0
      · simp only [h, if_true] <;> omega
      · simp only [h, if_false] <;> omega
theorem slicePick_cut (its : List Value) (lo hi : Option Int) : slicePick its.toArray lo hi none = ((its.drop (HT.sIx its.length 0 lo)).take (HT.sIx its.length its.length hi - HT.sIx its.length 0 lo)).toArray := by
  obtain ⟨h1, h2, h3⟩ := slice_bounds lo hi its.toArray.size
  unfold slicePick
  rw [h1, h2, h3]
  simp only [sliceRange_one, pick_run, List.size_toArray] <;> rfl
noncomputable def rSlL (K : PySem.W.Frag) : V -> Option Int -> Option Int -> Hp -> VK -> Prop := fun x lo hi H Q => ∃ a xs, x = .ref a /\ SqL K H a xs /\ ∀ p, H p = none -> Q (.ref p) (upd H p (.lst (cutV xs lo hi)))
theorem sl_list : SlR X (rSlL X.K) := by
  intro pins s σ H x v vl vu lo hi sl Q I rx hs pl pu h
  obtain ⟨a, xs, rfl, hx, q⟩ := h
  cases rx
  obtain ⟨its, r, ht, hz⟩ := I.list hx
  have hlen := r.length
  refine ⟨"list", _, slot_list_getitem.lookup, ht.isList.typeIs, ?_⟩
  refine wpAny_getItem_list_slice ht.isList hs pl pu .none (by simp) ?_ (by rw [List.size_toArray] <;> omega)
  rw [slicePick_cut, <- hlen]
  refine ⟨.ref s.heap.objs.size, _, I.laid (t' := s.toks) (o := .lst (cutV xs lo hi)) (fun b ob q => Heap.get?_push_of_some _ q) (Nat.le_refl _) ?_, rfl, q _ (I.hok.fresh (Nat.le_refl _))⟩
  exact ⟨Nat.le_trans (cutV_length xs lo hi) hz, _, 0, (r.drop (HT.sIx xs.length 0 lo)).take (HT.sIx xs.length xs.length hi - HT.sIx xs.length 0 lo), Heap.get?_push_size _ rfl⟩
noncomputable def flatV : V -> Bool
  | .non => true
  | .bl _ => true
  | .int _ => true
  | .str _ => true
  | _ => false
noncomputable def eqV : V -> V -> Bool
  | .non, .non => true
  | .bl a, .bl b => a == b
  | .bl a, .int b => (if a then 1 else 0) == b
  | .int a, .bl b => a == (if b then 1 else 0)
  | .int a, .int b => a == b
  | .str a, .str b => a == b
  | _, _ => false
theorem eqAt_V {A : Around} {s : Shared} {y x : V} {u v : Value} (ry : RelV y u) (rx : RelV x v) (fy : flatV y = true) (fx : flatV x = true) : SeqAt.EqAt A s u v (eqV y x) := by
  cases y with
  | non =>
    cases ry
    cases x with
    | non => cases rx; exact SeqAt.EqAt.same _
    | bl b => cases rx; exact SeqAt.EqAt.none_bool b
    | int b => obtain ⟨t, rfl⟩ := rx; exact SeqAt.EqAt.none_int b t
    | str b => obtain ⟨t, rfl⟩ := rx; exact SeqAt.EqAt.none_str b t
    | _ => exact absurd (show false = true from fx) Bool.false_ne_true
  | bl a =>
    cases ry
    cases x with
    | non => cases rx; exact SeqAt.EqAt.bool_none a
    | bl b => cases rx; exact SeqAt.EqAt.bool_bool a b
    | int b => obtain ⟨t, rfl⟩ := rx; exact SeqAt.EqAt.bool_int a b t
    | str b => obtain ⟨t, rfl⟩ := rx; exact SeqAt.EqAt.bool_str a b t
    | _ => exact absurd (show false = true from fx) Bool.false_ne_true
  | int a =>
    obtain ⟨t', rfl⟩ := ry
    cases x with
    | non => cases rx; exact SeqAt.EqAt.int_none a t'
    | bl b => cases rx; exact SeqAt.EqAt.int_bool a t' b
    | int b => obtain ⟨t, rfl⟩ := rx; exact SeqAt.EqAt.int_int a t' b t
    | str b => obtain ⟨t, rfl⟩ := rx; exact SeqAt.EqAt.int_str a t' b t
    | _ => exact absurd (show false = true from fx) Bool.false_ne_true
  | str a =>
    obtain ⟨t', rfl⟩ := ry
    cases x with
    | non => cases rx; exact SeqAt.EqAt.str_none a t'
    | bl b => cases rx; exact SeqAt.EqAt.str_bool a t' b
    | int b => obtain ⟨t, rfl⟩ := rx; exact SeqAt.EqAt.str_int a t' b t
    | str b => obtain ⟨t, rfl⟩ := rx; exact SeqAt.EqAt.str_str a t' b t
    | _ => exact absurd (show false = true from fx) Bool.false_ne_true
  | _ => exact absurd (show false = true from fy) Bool.false_ne_true
noncomputable def eqU (x : V) (u : Value) : Bool := match u with
  | .none => eqV .non x
  | .bool b => eqV (.bl b) x
  | .int i _ => eqV (.int i) x
  | .str z _ => eqV (.str z) x
  | _ => false
theorem eqU_of {x y : V} {u : Value} (r : RelV y u) (f : flatV y = true) : eqU x u = eqV y x := by
  cases y with
  | non => cases r; rfl
  | bl b => cases r; rfl
  | int i => obtain ⟨t, rfl⟩ := r; rfl
  | str z => obtain ⟨t, rfl⟩ := r; rfl
  | _ => exact absurd (show false = true from f) Bool.false_ne_true
theorem any_eqU {x : V} : ∀ {xs : List V} {us : List Value}, Vals xs us -> xs.all flatV = true -> us.any (eqU x) = xs.any fun y => eqV y x
  | _, _, .nil, _ => rfl
  | y :: xs, u :: us, .cons r t, f => by
    rw [List.all_cons, Bool.and_eq_true] at f
    rw [List.any_cons, List.any_cons, eqU_of r f.1, any_eqU t f.2]
theorem mem_eqAt {A : Around} {s : Shared} {x : V} {v : Value} (rx : RelV x v) (fx : flatV x = true) : ∀ {xs : List V} {us : List Value}, Vals xs us -> xs.all flatV = true -> ∀ u ∈ us, SeqAt.EqAt A s u v (eqU x u)
  | _, _, .nil, _ => fun u hu => by cases hu
  | y :: xs, u :: us, .cons r t, f => fun u' hu => by
    rw [List.all_cons, Bool.and_eq_true] at f
    rcases List.mem_cons.mp hu with rfl | hu
    · rw [eqU_of r f.1]; exact eqAt_V r rx f.1 fx
    · exact mem_eqAt rx fx t f.2 u' hu
noncomputable def inV (x : V) (xs : List V) : Bool := xs.any fun y => eqV y x
noncomputable def rIn (K : PySem.W.Frag) (neg : Bool) : R2 := fun x y H Q => ∃ p xs, y = .ref p /\ (SqL K H p xs \/ SqT K H p xs) /\ flatV x = true /\ xs.all flatV = true /\ Q (.bl (if neg then !inV x xs else inV x xs)) H
theorem op_in_seq : OpR X (compareOp .In) (rIn X.K false) := by
  intro pins s σ H x y v u Q I rx ry h
  obtain ⟨p, xs, rfl, hq, fx, fs, q⟩ := h
  cases ry
  rcases hq with hq | hq
  · obtain ⟨its, r, pl, hz⟩ := I.list hq
    refine SeqAt.in_listAt (eqU x) pl.isList (fun w hw => mem_eqAt rx fx r fs w (by simpa using hw)) ⟨.bl _, H, I, rfl, ?_⟩
    rw [show its.toArray.any (eqU x) = its.any (eqU x) by simp, any_eqU r fs]
    exact q
  · obtain ⟨its, r, pl, hz⟩ := I.tuple hq
    refine SeqAt.in_tupleAt (eqU x) pl (fun w hw => mem_eqAt rx fx r fs w (by simpa using hw)) ⟨.bl _, H, I, rfl, ?_⟩
    rw [show its.toArray.any (eqU x) = its.any (eqU x) by simp, any_eqU r fs]
    exact q
theorem call_len_seq : CallR X (.builtin "len") (fun xs H Q => ∃ p ys, xs = [.ref p] /\ (SqL X.K H p ys \/ SqT X.K H p ys) /\ Q (.int ys.length) H) := by
  intro pins s σ H xs us Q I r h
  obtain ⟨p, ys, rfl, hq, q⟩ := h
  obtain ⟨u, rfl, rx⟩ := vals1 r
  cases rx
  have hn := line63
  rcases hq with hq | hq
  · obtain ⟨its, r', pl, hz⟩ := I.list hq
    have hlen := r'.length
    exact Calls.call_len_list pl.isList (by simp only [List.size_toArray] <;> omega) ⟨.int ys.length, H, I.tok _, ⟨s.toks + 1, by rw [List.size_toArray, hlen]⟩, q⟩
  · obtain ⟨its, r', pl, hz⟩ := I.tuple hq
    have hlen := r'.length
    exact len_tuple pl (by simp only [List.size_toArray] <;> omega) ⟨.int ys.length, H, I.tok _, ⟨s.toks + 1, by rw [List.size_toArray, hlen]⟩, q⟩
theorem call_len_str : CallR X (.builtin "len") (fun xs H Q => ∃ z, xs = [.str z] /\ z.length <= sizeLine /\ Q (.int z.length) H) := by
  intro pins s σ H xs us Q I r h
  obtain ⟨z, rfl, hz, q⟩ := h
  obtain ⟨u, rfl, t, rfl⟩ := vals1 r
  have hn := line63
  exact len_str (by omega) ⟨.int z.length, H, I.tok _, ⟨_, rfl⟩, q⟩
theorem call_list_of : CallR X (.type "list") (fun xs H Q => ∃ p ys, xs = [.ref p] /\ (SqL X.K H p ys \/ SqT X.K H p ys) /\ ∀ l, H l = none -> Q (.ref l) (upd H l (.lst ys))) := by
  intro pins s σ H xs us Q I r h
  obtain ⟨p, ys, rfl, hq, q⟩ := h
  obtain ⟨u, rfl, rx⟩ := vals1 r
  cases rx
  have fin : ∀ (its : List Value), Vals ys its -> ys.length <= sizeLine -> ∀ (h' : Heap) (c' : Nat), (∀ b o', s.heap.get? b = some o' -> h'.get? b = some o') ->
      h'.get? s.heap.objs.size = some { cls := .type "list", dict := none, data := .seq its.toArray c', slots := #[] } -> EP X pins σ Q (.ref s.heap.objs.size) { s with heap := h' } := fun its r' hz h' c' kp e =>
    ⟨.ref s.heap.objs.size, _, I.laid (t' := s.toks) kp (Nat.le_refl _) (show ObjOk X.prog X.w _ h' _ (.lst ys) from ⟨hz, its, c', r', e⟩), rfl, q _ (I.hok.fresh (Nat.le_refl _))⟩
  rcases hq with hq | hq
  · obtain ⟨its, r', pl, hz⟩ := I.list hq
    have hlen := r'.length
    obtain ⟨o, ho, hc, n, hd⟩ := pl.isList
    exact call_list_seq p (.inl rfl) ho hc hd (fun h' c' kp e => fin its r' hz h' c' kp e) (by simp only [List.size_toArray] <;> omega)
  · obtain ⟨its, r', pl, hz⟩ := I.tuple hq
    have hlen := r'.length
    obtain ⟨o, ho, hc, n, hd⟩ := pl
    exact call_list_seq p (.inr rfl) ho hc hd (fun h' c' kp e => fin its r' hz h' c' kp e) (by simp only [List.size_toArray] <;> omega)
theorem call_tuple_of : CallR X (.type "tuple") (fun xs H Q => ∃ p ys, xs = [.ref p] /\ ((SqL X.K H p ys /\ ∀ l, H l = none -> Q (.ref l) (upd H l (.tup ys))) \/ (SqT X.K H p ys /\ Q (.ref p) H))) := by
  intro pins s σ H xs us Q I r h
  obtain ⟨p, ys, rfl, h⟩ := h
  obtain ⟨u, rfl, rx⟩ := vals1 r
  cases rx
  rcases h with ⟨hq, q⟩ | ⟨hq, q⟩
  · obtain ⟨its, r', pl, hz⟩ := I.list hq
    have hlen := r'.length
    refine call_tuple_list pl.isList (fun h' kp => ?_) (by simp only [List.size_toArray] <;> omega)
    have I1 : Inv X pins σ H { s with heap := h' } := I.kept (t' := s.toks) kp
    have I2 : Inv X pins σ (upd H h'.objs.size (.tup ys)) { s with heap := h'.push { cls := .type "tuple", data := .seq its.toArray } } :=
      I1.laid (t' := s.toks) (fun b o e => Heap.get?_push_of_some _ e) (Nat.le_refl _) (show ObjOk X.prog X.w _ _ _ (.tup ys) from ⟨hz, its, r', IsTup.new _ _⟩)
    exact ⟨.ref h'.objs.size, _, I2, rfl, q _ (I1.hok.fresh (Nat.le_refl _))⟩
  · obtain ⟨its, r', pl, hz⟩ := I.tuple hq
    exact call_tuple_same pl ⟨.ref p, H, I, rfl, q⟩
noncomputable def tyV (K : PySem.W.Frag) (T : String) (x : V) (H : Hp) : Prop := match x with
  | .str _ => T = "str"
  | .int _ => T = "int"
  | .ref p => (T = "list" /\ ∃ xs, SqL K H p xs) \/ (T = "tuple" /\ ∃ o, K.lookup p = some o /\ o.cls = .type "tuple" /\ o.dict = none) \/
      (T = "dict" /\ ((∃ kvs, H p = some (.dK kvs)) \/ ∃ kvs, H p = some (.dT kvs))) \/ (T = "set" /\ ∃ S n, H p = some (.set S n))
  | _ => False
theorem tyV_is {pins : List (Addr × Obj)} {σ : St} {H : Hp} {s : Shared} {T : String} {x : V} {v : Value} (I : Inv X pins σ H s) (r : RelV x v) (ty : tyV X.K T x H) :
    s.TypeIs v T /\ ∀ a, v = .ref a -> ∃ ob, s.heap.get? a = some ob /\ ob.dict = none := by
  cases x with
  | str z =>
    obtain ⟨t, rfl⟩ := r
    cases (show T = "str" from ty)
    exact ⟨typeIs_str s z t, fun _ e => nomatch e⟩
  | int i =>
    obtain ⟨t, rfl⟩ := r
    cases (show T = "int" from ty)
    exact ⟨typeIs_int s i t, fun _ e => nomatch e⟩
  | ref p =>
    cases r
    rcases ty with ⟨rfl, xs, hq⟩ | ⟨rfl, o, hk, hc, hd⟩ | ⟨rfl, hk⟩ | ⟨rfl, S, n, hk⟩
    · obtain ⟨its, _, pl, _⟩ := I.list hq
      refine ⟨pl.isList.typeIs, fun a e => ?_⟩
      cases e
      obtain ⟨o, n, e, c, hd, _⟩ := pl
      exact ⟨o, e, hd⟩
    · refine ⟨⟨o, I.kIn p o hk, hc⟩, fun a e => ?_⟩
      cases e
      exact ⟨o, I.kIn _ o hk, hd⟩
    · have z : ∃ o, s.heap.get? p = some o /\ o.ExactDict := by
        rcases hk with ⟨kvs, hk⟩ | ⟨kvs, hk⟩
        · obtain ⟨_, _, _, _, o, _, _, e, ex, _⟩ := I.hok p _ hk
          exact ⟨o, e, ex⟩
        · obtain ⟨_, _, _, _, o, _, _, e, ex, _⟩ := I.hok p _ hk
          exact ⟨o, e, ex⟩
      obtain ⟨o, e, ex⟩ := z
      refine ⟨⟨o, e, ex.1⟩, fun a e2 => ?_⟩
      cases e2
      exact ⟨o, e, ex.2.1⟩
    · obtain ⟨o, _, _, _, e, ex, _⟩ := I.hok p _ hk
      refine ⟨⟨o, e, ex.1⟩, fun a e2 => ?_⟩
      cases e2
      exact ⟨o, e, ex.2.1⟩
  | _ => exact False.elim ty
noncomputable def tBM0 (K : PySem.W.Frag) (T : String) (r : V -> List V -> Hp -> VK -> Prop) (to : TE) : TE := fun σ H Q => to σ H fun x H1 => tyV K T x H1 /\ r x [] H1 Q
noncomputable def tBM (K : PySem.W.Frag) (T : String) (r : V -> List V -> Hp -> VK -> Prop) (to : TE) (t : TA) : TE := fun σ H Q => to σ H fun x H1 => tyV K T x H1 /\ t σ H1 fun xs H2 => r x xs H2 Q
variable {o e : Expr} {es : List Expr} {to : TE} {t : TA} {name : Str} {apos cpos : Pos} {T id : String} {r : V -> List V -> Hp -> VK -> Prop}
theorem pe_bm0 (pa : PlainAttrs T) (slot : Slot T name id) (hty : typeOf (.builtin id) = pure (.type "method_descriptor")) (hm : MtR X id r) (ho : PE X o to)
    (hbase : attributeBase o name X.env (eval o X.env) = eval o X.env := by rfl) (hline : (apos.endLine == cpos.line) = true := by rfl) : PE X (.Call (.Attribute o name apos) [] [] cpos) (tBM0 X.K T r to) := by
  intro pins s σ H Q I h
  refine wpAny_Call_method0_late hbase hline (thn (ho pins s σ H _ I h) fun v s1 ⟨x, H1, I1, r1, ty, q1⟩ => ?_)
  obtain ⟨h1, h2⟩ := tyV_is I1 r1 ty
  exact ⟨T, id, pa, slot, hty, h1, h2, Calls.callWith_builtin rfl (PySem.evalArgs_none (hm pins s1 σ H1 x [] v [] Q I1 r1 .nil q1))⟩
theorem pe_bm (pa : PlainAttrs T) (slot : Slot T name id) (hty : typeOf (.builtin id) = pure (.type "method_descriptor")) (hm : MtR X id r) (ho : PE X o to) (ha : PA X (e :: es) t)
    (hbase : attributeBase o name X.env (eval o X.env) = eval o X.env := by rfl)
    (hfew : ((backTo cpos (starEach (e :: es) X.env)).all (fun x => !x.1) && (backToKw cpos (keywordEach [] X.env)).all (fun x => x.1.isSome)
      && decide ((e :: es).length + ([] : List Keyword).length + (if ([] : List Keyword).isEmpty then 0 else 1) < 30)) = true := by rfl)
    (hline : (apos.endLine == cpos.line) = true := by rfl) (hs : starEach (e :: es) X.env = (false, eval e X.env) :: starEach es X.env := by rfl) (hplain : (backTo cpos (starEach es X.env)).any (·.1) = false := by rfl) :
    PE X (.Call (.Attribute o name apos) (e :: es) [] cpos) (tBM X.K T r to t) := by
  intro pins s σ H Q I h
  refine wpAny_Call_method_late hbase hfew hline rfl (thn (ho pins s σ H _ I h) fun v s1 ⟨x, H1, I1, r1, ty, q1⟩ => ?_)
  obtain ⟨h1, h2⟩ := tyV_is I1 r1 ty
  refine ⟨T, id, pa, slot, hty, h1, h2, ?_⟩
  have hA := ha cpos pins s1 σ H1 _ I1 q1
  rw [hs] at hA ⊢
  refine Calls.callWith_builtin (by show (false || (backTo cpos (starEach es X.env)).any (·.1)) = false; rw [hplain] <;> rfl) (Calls.evalArgs_plain ?_)
  exact thn hA fun us s2 ⟨vs, H2, I2, r2, q2⟩ => hm pins s2 σ H2 x vs v us Q I2 r1 r2 q2
/- xs.append(e), list.index on a module's tuple .. are MtR facts of 06m -/
end
end L2
namespace L2
open PySem PySem.Spec PyProof.Rows
noncomputable def MtM (X : Cx) (id : String) (r : V -> List V -> Hp -> VK -> Prop) : Prop :=
  ∀ (pins : List (Addr × Obj)) (s : Shared) (σ : St) (H : Hp) (x : V) (xs : List V) (v : Value) (us : List Value) (Q : VK), Inv X pins σ H s -> RelV x v -> Vals xs us -> r x xs H Q ->
    wpAny (model X.prog X.w) X.A (call (.builtin id) (v :: us)) (EP X pins σ Q) X.xe s
theorem Vals.one : ∀ {x : V} {us : List Value}, Vals [x] us -> ∃ u, us = [u] /\ RelV x u
  | _, _, .cons r .nil => ⟨_, rfl, r⟩
theorem Vals.zero : ∀ {us : List Value}, Vals [] us -> us = []
  | _, .nil => rfl
theorem Vals.dropLast {xs : List V} {us : List Value} (h : Vals xs us) : Vals xs.dropLast us.dropLast := by
  induction h with
  | nil => exact .nil
  | cons r t ih =>
    cases t with
    | nil => exact .nil
    | cons q t' => exact .cons r ih
theorem Vals.eraseIdx : ∀ {xs : List V} {us : List Value} (i : Nat), Vals xs us -> Vals (xs.eraseIdx i) (us.eraseIdx i)
  | _, _, _, .nil => .nil
  | _, _, 0, .cons _ t => t
  | _, _, i + 1, .cons r t => .cons r (Vals.eraseIdx i t)
theorem Vals.rep {xs : List V} {us : List Value} (h : Vals xs us) : ∀ k : Nat, Vals (List.replicate k xs).flatten (List.replicate k us).flatten
  | 0 => .nil
  | k + 1 => by
    rw [List.replicate_succ, List.replicate_succ, List.flatten_cons, List.flatten_cons]
    exact Vals.append h (Vals.rep h k)
theorem erase_last {α : Type} (l : List α) : l.eraseIdx (l.length - 1) = l.dropLast := by
  induction l with
  | nil => rfl
  | cons a r ih =>
    cases r with
    | nil => rfl
    | cons b r =>
      have e : (a :: b :: r).length - 1 = ((b :: r).length - 1) + 1 := by
        have h1 : (a :: b :: r).length = r.length + 2 := rfl
        have h2 : (b :: r).length = r.length + 1 := rfl
        omega
      rw [e, List.eraseIdx_cons_succ, ih]
      all_goals rfl
theorem len_erase {α : Type} : ∀ (l : List α) (i : Nat), (l.eraseIdx i).length <= l.length
  | [], _ => Nat.le_refl _
  | _ :: _, 0 => Nat.le_succ _
  | _ :: r, i + 1 => Nat.succ_le_succ (len_erase r i)
theorem foldl_rep (its : List Value) : ∀ (k : Nat) (acc : List Value),
    List.foldl (fun x1 x2 => x1 ++ x2) acc.toArray (List.replicate k its.toArray) = (acc ++ (List.replicate k its).flatten).toArray
  | 0, acc => by simp
  | k + 1, acc => by
    have e : acc.toArray ++ its.toArray = (acc ++ its).toArray := by simp
    have e2 : (acc ++ its) ++ (List.replicate k its).flatten = acc ++ (List.replicate (k + 1) its).flatten := by
      rw [List.replicate_succ, List.flatten_cons, List.append_assoc]
    rw [<- e2, <- foldl_rep its k (acc ++ its), <- e, List.replicate_succ, List.foldl_cons]
section
variable {X : Cx} {pins : List (Addr × Obj)} {σ : St} {H : Hp} {s : Shared} {l b : Addr} {xs ys zs : List V}
theorem Inv.lset {its its' : List Value} {n : Nat} {f : Array Value -> Array Value} {t' : Nat} (I : Inv X pins σ H s) (hH : H l = some (.lst xs))
    (e : s.heap.get? l = some { cls := .type "list", data := .seq its.toArray n }) (hf : f its.toArray = its'.toArray) (hv : Vals ys its') (hz : ys.length <= sizeLine) :
    Inv X pins σ (upd H l (.lst ys)) { s with heap := s.heap.update l (Obj.mapSeq f), toks := t' } := by
  have q := PySem.IsL.update e f
  rw [hf] at q
  refine I.write (x := l) (e := l) (by rw [hH]; exact trivial) (.inl rfl) (fun b' u hb hu => (Heap.get?_update_other s.heap (Obj.mapSeq f) (Ne.symm hb)).trans hu) ⟨_, q⟩ ?_
  exact ⟨hz, its', _, hv, q⟩
theorem Inv.lnew {its : List Value} {t' : Nat} (I : Inv X pins σ H s) (hv : Vals ys its) (hz : ys.length <= sizeLine) :
    Inv X pins σ (upd H s.heap.objs.size (.lst ys)) { s with heap := s.heap.push { cls := .type "list", data := .seq its.toArray }, toks := t' } :=
  I.laid (fun _ _ q => Heap.get?_push_of_some _ q) (Nat.le_refl _) ⟨hz, its, 0, hv, Heap.get?_push_size _ rfl⟩
theorem Inv.fresh (I : Inv X pins σ H s) : H s.heap.objs.size = none := I.hok.fresh (Nat.le_refl _)
theorem Inv.lstM (I : Inv X pins σ H s) (hH : H l = some (.lst xs)) : xs.length <= sizeLine /\ ∃ (its : List Value) (n : Nat), Vals xs its /\ xs.length = its.length /\ s.heap.get? l = some { cls := .type "list", data := .seq its.toArray n } := by
  obtain ⟨z, its, n, r, e⟩ := I.hok l _ hH
  exact ⟨z, its, n, r, r.length, e⟩
theorem notLongL {n : Nat} (h : n <= sizeLine) : Builtin.List.listTooLong n = false := by
  unfold Builtin.List.listTooLong
  exact decide_eq_false (by omega)
end
section
variable {X : Cx}
noncomputable def rAppend : V -> List V -> Hp -> VK -> Prop := fun x vs H Q => ∃ l xs y, x = .ref l /\ vs = [y] /\ H l = some (.lst xs) /\ xs.length < sizeLine /\ Q .non (upd H l (.lst (xs ++ [y])))
theorem mt_append : MtM X "list.append" rAppend := by
  intro pins s σ H x vs v us Q I rx rv h
  obtain ⟨l, xs, y, rfl, rfl, hH, hz, q⟩ := h
  cases rx
  obtain ⟨u, rfl, ru⟩ := rv.one
  obtain ⟨z, its, n, r, hl, e⟩ := I.lstM hH
  refine call_meets F.slot_list_append ⟨_, e, rfl⟩ F.entry_list_append (F.args_list_append_2 _ _) (PySem.list_append l its.toArray n u (by rw [List.size_toArray]; omega)) ⟨e, ?_⟩
  refine ⟨.non, _, I.lset (its' := its ++ [u]) hH e (by simp) (r.append (.cons ru .nil)) ?_, rfl, q⟩
  rw [List.length_append, List.length_singleton]
  omega
noncomputable def rExtend : V -> List V -> Hp -> VK -> Prop := fun x vs H Q => ∃ l b xs zs, x = .ref l /\ vs = [.ref b] /\ H l = some (.lst xs) /\ H b = some (.lst zs) /\ xs.length + zs.length <= sizeLine /\ Q .non (upd H l (.lst (xs ++ zs)))
theorem mt_extend : MtM X "list.extend" rExtend := by
  intro pins s σ H x vs v us Q I rx rv h
  obtain ⟨l, b, xs, zs, rfl, rfl, hH, hB, hz, q⟩ := h
  cases rx
  obtain ⟨u, rfl, ru⟩ := rv.one
  cases ru
  obtain ⟨z, its, n, r, hl, e⟩ := I.lstM hH
  obtain ⟨z2, its2, n2, r2, hl2, e2⟩ := I.lstM hB
  have hsz : its.toArray.size + its2.toArray.size <= sizeLine := by rw [List.size_toArray, List.size_toArray]; omega
  have hlong : ¬ (!its.toArray.isEmpty && Builtin.List.listTooLong (its.toArray.size + its2.toArray.size)) = true := by
    rw [notLongL hsz, Bool.and_false]
    exact Bool.false_ne_true
  refine call_meets F.slot_list_extend ⟨_, e, rfl⟩ F.entry_list_extend (F.args_list_extend_2 _ _)
    (AutoSeq1.list_extend_list_list_0 l its.toArray n b its2.toArray n2 hlong (by rw [List.size_toArray]; omega) (by omega)) ⟨e, e2, ?_⟩
  refine ⟨.non, _, I.lset (its' := its ++ its2) hH e (by simp) (r.append r2) ?_, rfl, q⟩
  rw [List.length_append]
  omega
noncomputable def rPop : V -> List V -> Hp -> VK -> Prop := fun x vs H Q => ∃ l xs y, x = .ref l /\ vs = [] /\ H l = some (.lst xs) /\ xs[xs.length - 1]? = some y /\ Q y (upd H l (.lst xs.dropLast))
theorem mt_pop : MtM X "list.pop" rPop := by
  intro pins s σ H x vs v us Q I rx rv h
  obtain ⟨l, xs, y, rfl, rfl, hH, hy, q⟩ := h
  cases rx
  have hus := rv.zero
  subst hus
  obtain ⟨z, its, n, r, hl, e⟩ := I.lstM hH
  obtain ⟨u, hu, ru⟩ := r.get hy
  have hy' : its.toArray[its.toArray.size - 1]? = some u := by
    show its.toArray[its.length - 1]? = some u
    rw [<- Array.getElem?_toList, <- hl]
    exact hu
  refine call_meets F.slot_list_pop ⟨_, e, rfl⟩ F.entry_list_pop (F.args_list_pop_1 _) (MeetsSeq.list_pop_last l its.toArray n u hy' (by rw [List.size_toArray]; omega)) ⟨e, ?_⟩
  refine ⟨y, _, I.lset (its' := its.dropLast) hH e ?_ r.dropLast ?_, ru, q⟩
  · show its.toArray.eraseIdxIfInBounds (its.toArray.size - 1) = its.dropLast.toArray
    rw [List.size_toArray, List.eraseIdxIfInBounds_toArray, erase_last]
  · rw [List.length_dropLast]
    omega
noncomputable def rPopAt : V -> List V -> Hp -> VK -> Prop := fun x vs H Q => ∃ l xs i k y, x = .ref l /\ vs = [.int i] /\ H l = some (.lst xs) /\ -(2 ^ 63) <= i /\ i < 2 ^ 63 /\ seqIndex? i xs.length = some k /\ xs[k]? = some y /\ Q y (upd H l (.lst (xs.eraseIdx k)))
theorem mt_popAt : MtM X "list.pop" rPopAt := by
  intro pins s σ H x vs v us Q I rx rv h
  obtain ⟨l, xs, i, k, y, rfl, rfl, hH, h1, h2, hk, hy, q⟩ := h
  cases rx
  obtain ⟨u, rfl, ru⟩ := rv.one
  obtain ⟨t, rfl⟩ := ru
  obtain ⟨z, its, n, r, hl, e⟩ := I.lstM hH
  obtain ⟨w, hw, rw'⟩ := r.get hy
  refine call_meets F.slot_list_pop ⟨_, e, rfl⟩ F.entry_list_pop (F.args_list_pop_2 _ _)
    (MeetsSeq.list_pop_at l its.toArray n i t k w (fitsIndex_both h1 h2) (by rw [List.size_toArray, <- hl]; exact hk) (by rw [<- Array.getElem?_toList]; exact hw) (by rw [List.size_toArray]; omega)) ⟨e, ?_⟩
  refine ⟨y, _, I.lset (its' := its.eraseIdx k) hH e ?_ (r.eraseIdx k) ?_, rw', q⟩
  · show its.toArray.eraseIdxIfInBounds k = (its.eraseIdx k).toArray
    rw [List.eraseIdxIfInBounds_toArray]
  · have := len_erase xs k
    omega
noncomputable def rCat : R2 := fun x y H Q => ∃ l b xs zs, x = .ref l /\ y = .ref b /\ H l = some (.lst xs) /\ H b = some (.lst zs) /\ xs.length + zs.length <= sizeLine /\ ∀ p, H p = none -> Q (.ref p) (upd H p (.lst (xs ++ zs)))
theorem op_cat : OpR X (binaryOp .Add) rCat := by
  intro pins s σ H x y v u Q I rx ry h
  obtain ⟨l, b, xs, zs, rfl, rfl, hH, hB, hz, q⟩ := h
  cases rx
  cases ry
  obtain ⟨z, its, n, r, hl, e⟩ := I.lstM hH
  obtain ⟨z2, its2, n2, r2, hl2, e2⟩ := I.lstM hB
  refine PySem.P.add_list e e2 ?_ (by rw [List.size_toArray, List.size_toArray]; omega)
  have ea : its.toArray ++ its2.toArray = (its ++ its2).toArray := by simp
  rw [ea]
  exact ⟨.ref _, _, I.lnew (t' := s.toks) (r.append r2) (by rw [List.length_append]; omega), rfl, q _ I.fresh⟩
noncomputable def rRep : R2 := fun x y H Q => ∃ l k xs, x = .ref l /\ y = .int k /\ H l = some (.lst xs) /\ -(2 ^ 63) <= k /\ k < 2 ^ 63 /\ xs.length * k.toNat <= sizeLine /\
  ∀ p, H p = none -> Q (.ref p) (upd H p (.lst (List.replicate k.toNat xs).flatten))
theorem len_rep {α : Type} (xs : List α) (k : Nat) : (List.replicate k xs).flatten.length = k * xs.length := by
  induction k with
  | zero => simp
  | succ k ih => rw [List.replicate_succ, List.flatten_cons, List.length_append, ih, Nat.succ_mul, Nat.add_comm]
theorem op_rep : OpR X (binaryOp .Mult) rRep := by
  intro pins s σ H x y v u Q I rx ry h
  obtain ⟨l, k, xs, rfl, rfl, hH, h1, h2, hz, q⟩ := h
  cases rx
  obtain ⟨t, rfl⟩ := ry
  obtain ⟨z, its, n, r, hl, e⟩ := I.lstM hH
  have hlen : its.toArray.size * k.toNat <= sizeLine := by rw [List.size_toArray, <- hl]; exact hz
  have hcap : ¬ its.toArray.size * k.toNat > (2 ^ 63 - 1) / 8 := by
    have : (sizeLine : Nat) <= (2 ^ 63 - 1) / 8 := by decide
    omega
  have hfit : ¬ (!Builtin.List.listFitsIndex k) = true := by
    rw [fitsIndex_both h1 h2]
    exact Bool.false_ne_true
  have hlong : ¬ Builtin.List.listTooLong (its.toArray.size * k.toNat) = true := by
    rw [notLongL hlen]
    exact Bool.false_ne_true
  have hnew : List.foldl (fun x1 x2 => x1 ++ x2) #[] (List.replicate (if its.toArray.isEmpty = true then 0 else k.toNat) its.toArray) = (List.replicate k.toNat its).flatten.toArray := by
    have f0 : ∀ m : Nat, List.foldl (fun x1 x2 => x1 ++ x2) #[] (List.replicate m its.toArray) = (List.replicate m its).flatten.toArray := fun m => by
      have := foldl_rep its m []
      rw [List.nil_append] at this
      exact this
    rw [f0]
    cases its with
    | nil => simp
    | cons a r' => rw [if_neg (by simp)]
  refine wpAny_binaryOp_repeat_ref (T := "list") (U := "int") (by decide) ⟨_, e, rfl⟩ (fun s' => typeIs_int s' k t) noFill_list_mul F.fills_int_mul F.slot_int_rmul repeat_list F.slot_int_index.lookup
    (call_meets F.slot_int_rmul (typeIs_int s k t) F.entry_int_rmul (F.args_int_rmul_2 _ _) (int___rmul___int_list k t l its.toArray n)
      ⟨e, rfl, ⟨_, e, rfl⟩, call_meets F.slot_list_mul ⟨_, e, rfl⟩ F.entry_list_mul (F.args_list_mul_2 _ _) (AutoListH.list___mul___list_int_3 l its.toArray n k t hfit hcap hlong) ⟨e, ?_⟩⟩)
  rw [hnew]
  exact ⟨.ref _, _, I.lnew (t' := s.toks) (r.rep k.toNat) (by rw [len_rep, Nat.mul_comm]; exact hz), rfl, q _ I.fresh⟩
end
section
variable {prog : Program} {w : World} {A : Around} {E : Value -> Shared -> Prop} {s : Shared}
end
section
variable {X : Cx}
end
end L2
namespace Att
open PySem PySem.W PySem.Calls PyProof.Rows
theorem ints_of_wellAll {P : Params} {h : Heap} : ∀ (ns : List Int) (vs : List Value), WellAll P h vs (ns.map WData.int) -> IntsAre vs ns := by
  intro ns
  induction ns with
  | nil =>
    intro vs w
    rw [List.map_nil] at w
    cases w
    exact .nil
  | cons n ns ih =>
    intro vs w
    rw [List.map_cons] at w
    cases w with
    | cons a b =>
      cases a
      exact .cons _ _ (ih _ b)
theorem script_of {l : OpenLaw} {n : Nat} (hn : l.most = some n) {P : Params} {h : Heap} {args : List WData} {vals : List Value}
    (hpre : l.row.toRowW.claim.pre args = true) (hwl : WellAll P h vals args) :
    ∃ a vs ns, vals = [Value.ref a] /\ args = [WData.list (ns.map WData.int)] /\ h.get? a = some { cls := .type "list", data := .seq vs.toArray } /\ IntsAre vs ns /\ ns.length <= n := by
  have hsh : WShape.hasAll [] args [.list .int] = true := (pre_splitW hpre).1
  have hc : l.pre.holds [] { args := args } = true := (pre_splitW hpre).2
  obtain ⟨d, r, rfl, h1, h2⟩ := hasAllW_cons hsh
  obtain rfl := hasAllW_nil h2
  obtain ⟨xs, rfl, h3⟩ := hasW_list h1
  obtain ⟨ns, rfl⟩ := items_int h3
  have hlen : ns.length <= n := by
    unfold OpenLaw.pre at hc
    have h4 : (WTm.not (.lt (.lit (.int (n : Int))) (.len (.arg 0)))).holds [] { args := [.list (ns.map .int)] } = true := by
      have h4 := (holds_andW hc).1
      rw [hn] at h4
      exact h4
    have h5 := condW_of h4 (w_not (w_lt w_lit (w_len_list (w_arg rfl))))
    rw [List.length_map] at h5
    refine Nat.le_of_not_lt fun q => ?_
    have q' : (n : Int) < ((ns.length : Nat) : Int) := by omega
    first
      | (rw [decide_eq_true q'] at h5; exact absurd h5 (by decide))
      | (simp at h5; omega)
  cases hwl with
  | cons w1 w2 =>
    cases w2
    cases w1 with
    | list ho hall => exact ⟨_, _, ns, rfl, rfl, ho, ints_of_wellAll ns _ hall, hlen⟩
theorem post_true (l : OpenLaw) (args : List WData) : l.row.toRowW.claim.post args (.bool true) args = true :=
  postW_of (r := l.row.toRowW) (X := (true == true))
    (show WShape.has [] (.bool true) .bool = true by first | rfl | decide | simp [WShape.has, WShape.arms, WShape.armsAll])
    (show (WTm.eq .res (.lit (.bool true))).value [] { args := args, res := some (.bool true), after := args } = some (.bool (true == true)) from w_eq_bool (w_res rfl) w_lit) rfl
theorem attach_call {l : OpenLaw} {n : Nat} {q : Program} {loose : List Str} {XP : (Str -> Option Value) -> Heap -> Prop} {YP : World -> Heap -> Prop} {d : DefRec}
    (hn : l.most = some n) (hdf : d.params.defaults = [])
    (call : ∀ (w : World) (s₀ s₁ : Shared) (mg mb : Str -> Option Value) (fa : Addr) (o : Obj) (pm cd doc : Value) (a : Addr) (vs : List Value) (ns : List Int),
      Ground q loose [] XP w s₀ mg mb s₁.heap -> YP w s₁.heap ->
      s₁.heap.get? fa = some o -> o.data = .func (docDef d.name d.params d.body d.scope pm cd doc) -> s₁.heap.CodeRec cd d.name -> mg d.name = some (.ref fa) ->
      s₁.heap.get? a = some { cls := .type "list", data := .seq vs.toArray } -> IntsAre vs ns -> ns.length <= n -> s₁.gens = #[] ->
      codeAny (model l.prog w) callerA (.call (.ref fa) ⟨[.ref a], []⟩) (fun r s' => r = .ok (.ret (.bool true)) /\ OldK s₁.heap s'.heap /\ s'.os = s₁.os /\ AllBare s'.gens) s₁) :
    WalkO q loose XP YP l.row.toRowW d [] (fun f vs => PySem.call f vs) := by
  intro w s₀ s₁ mg mb G Y fa o pm cd doc dV kV ho hd hcd hD hmg hg args vals as hpre hlay hrd hwl hlo
  obtain rfl : dV = .none := Dflts.none hD hdf
  obtain rfl : kV = .none := Dflts.noKw hD
  obtain ⟨a, vs, ns, rfl, rfl, hobj, hints, hlen⟩ := script_of hn hpre hwl
  refine enter_call (codeAny_mono (call w s₀ s₁ mg mb fa o pm cd doc a vs ns G Y ho (fd_plain hd) hcd hmg hobj hints hlen hg) fun r s' hq => ?_)
  obtain ⟨rfl, h2, h3, h4⟩ := hq
  exact ⟨.inl ⟨.bool true, .bool true, [], rfl, fun _ => rfl, .bool true, post_true l _, fun _ => ⟨List.Pairwise.nil, fun _ hm => (nomatch hm)⟩⟩, h2, h3, h4⟩
section
variable {prog : Program} {w : World} {A : Around} {E : Value -> Shared -> Prop} {s : Shared} {K : Frag}
noncomputable def ledger (h : Heap) (L d : Addr) : List (Addr × Obj) := (List.range h.objs.size).filterMap fun a => if a = L \/ a = d then none else (h.get? a).map fun o => (a, o)
end
end Att
namespace L2
open PySem PySem.Spec PyProof.Rows
theorem vals_ints : ∀ {vs : List Value} {ns : List Int}, IntsAre vs ns -> Vals (ns.map V.int) vs
  | _, _, .nil => .nil
  | _, _, .cons n t h => .cons ⟨t, rfl⟩ (vals_ints h)
noncomputable def Only (H : Hp) : Prop := ∀ b, H b = none \/ ∃ o xs, H b = some (.frz o (.lst xs))
theorem law_call {P : Program} {w : World} {K : PySem.W.Frag} {mg mb : Str -> Option Value} {CX : CXT} {k : Nat} {fa a : Addr} {fd : FuncData} {x : Str} {sp : Sp} {s₁ : Shared} {vs : List Value} {ns : List Int}
    (KX : K.In s₁.heap) (hns : s₁.heap.Ns mainGlobals mg) (hb : s₁.heap.Ns builtinsNs mb) (hbb : ∀ x : Str, x ≠ "__name__" -> mb x = bootBuiltins x) (hlim : s₁.heap.NoLimit) (hg : s₁.gens = #[])
    (ha : s₁.heap.get? a = some { cls := .type "list", data := .seq vs.toArray }) (hi : IntsAre vs ns) (hl : ns.length <= sizeLine) (hr : Room k callerA)
    (F : ∀ base : Heap, K.In base -> base.Ns mainGlobals mg -> FnOk P w K mg base CX k fa fd [x] sp) (hbind : ∀ (s : Shared) (u : Value), BindsTo s fd ⟨[u], []⟩ [(x, u)])
    (hsp : ∀ H : Hp, Only H -> SqL K H a (ns.map V.int) -> sp [.ref a] H (fun v _ => v = .bl true) fun _ _ _ => False)
    (hCX : ∀ H e s', CX [] H s₁ (fun _ _ _ => False) e s' -> False) :
    codeAny (model P w) callerA (.call (.ref fa) ⟨[.ref a], []⟩) (fun r s' => r = .ok (.ret (.bool true)) /\ OldK s₁.heap s'.heap /\ s'.os = s₁.os /\ AllBare s'.gens) s₁ := by
  have rv := vals_ints hi
  have lenV := hi.length
  -- from an abstract heap in which nothing but the script may be tracked
  have core : ∀ H : Hp, Only H -> SqL K H a (ns.map V.int) -> HOk P w H s₁.heap -> (∀ b, H b ≠ none -> b = a) -> (H a ≠ none -> K.lookup a = none) ->
      codeAny (model P w) callerA (.call (.ref fa) ⟨[.ref a], []⟩) (fun r s' => r = .ok (.ret (.bool true)) /\ OldK s₁.heap s'.heap /\ s'.os = s₁.os /\ AllBare s'.gens) s₁ := by
    intro H hO hS hok hA hK
    have base_of : ∀ {b : Addr} {o : Obj}, s₁.heap.get? b = some o -> H b = none -> (hidT s₁.heap H).get? b = some o := fun e n => hidT_get e n
    have noA : ∀ {b : Addr} {o : Obj} {es : Array DictEntry} {ep : Nat}, s₁.heap.get? b = some o -> o.data = .dict es ep -> H b = none := fun {b o es ep} e d => by
      cases q : H b with
      | none => rfl
      | some u =>
        have e' : b = a := hA b (by rw [q]; simp)
        subst e'
        rw [ha] at e; cases e
        have d' : Data.seq vs.toArray _ = Data.dict es ep := d
        cases d'
    have nsK : ∀ {b : Addr} {m : Str -> Option Value}, s₁.heap.Ns b m -> (hidT s₁.heap H).Ns b m := fun {b m} ⟨o, es, ep, e, d, r⟩ => ⟨o, es, ep, base_of e (noA e d), d, r⟩
    have hKb : K.In (hidT s₁.heap H) := fun b o e => base_of (KX b o e) (by
      cases q : H b with
      | none => rfl
      | some u =>
        have e' : b = a := hA b (by rw [q]; simp)
        subst e'
        rw [hK (by rw [q]; simp)] at e; cases e)
    have hM : Mod K mg (hidT s₁.heap H) := ⟨hKb, nsK hns, ⟨mb, nsK hb, hbb⟩, let ⟨mc, h1, h2⟩ := hlim; ⟨mc, nsK h1, h2⟩⟩
    have e0 : Env0 P w K mg (hidT s₁.heap H) callerA [] s₁ H := ⟨rfl, hM, fun b o e => of_hidT e, Nat.le_of_eq (hidT_size _ _), trivial, fun b hb => absurd (show b ∈ ([] : List Addr) from hb) (by simp), hok, .of_eq hg⟩
    refine codeAny_mono ((F _ hKb (nsK hns)).run callerA [] s₁ H ⟨[.ref a], []⟩ [.ref a] [.ref a] _ _ hr e0 (hbind s₁ (.ref a)) (.cons rfl .nil) (hsp H hO hS)) fun r s' h => ?_
    cases r with
    | error e => exact (hCX H e s' h).elim
    | ok fl =>
      cases fl with
      | next => exact False.elim h
      | brk => exact False.elim h
      | cont => exact False.elim h
      | ret u =>
        obtain ⟨v, H', os, bare, un, hok', r', q⟩ := h
        have q' : v = .bl true := q
        subst q'
        obtain rfl : u = Value.bool true := r'
        refine ⟨rfl, OldK.of_keep fun b o e => ?_, os, bare⟩
        cases q : H b with
        | none => exact un.keep b o e q (by intro z; exact absurd (show b ∈ ([] : List Addr) from z) (by simp)) (by simp)
        | some u =>
          rcases hO b with z | ⟨ob, xs, z⟩
          · rw [q] at z; cases z
          · have z2 := un.frzs b ob _ z
            obtain ⟨e1, _⟩ := hok b _ z
            obtain ⟨e2, _⟩ := hok' b _ z2
            rw [e] at e1; cases e1
            exact e2
  cases hk : K.lookup a with
  | some o =>
    -- the script is one of the module's own objects
    have e := KX a o hk
    rw [ha] at e
    cases e
    refine core (fun _ => none) (fun _ => .inl rfl) (.inr ⟨_, vs.toArray, _, hk, rfl, rfl, rfl, by rw [List.size_toArray, lenV]; exact hl, by simpa using rv⟩) (fun b u z => by have z' : (none : Option HO) = some u := z; cases z') (fun b z => absurd rfl z) fun z => absurd rfl z
  | none =>
    refine core (fun b => if b = a then some (.frz { cls := .type "list", data := .seq vs.toArray } (.lst (ns.map V.int))) else none) (fun b => ?_) (.inl (.inr ⟨{ cls := .type "list", data := .seq vs.toArray }, if_pos rfl⟩)) (fun b u z => ?_) (fun b z => ?_) fun _ => hk
    · by_cases hb : b = a
      · exact .inr ⟨_, _, if_pos hb⟩
      · exact .inl (if_neg hb)
    · by_cases hb : b = a
      · have z' := (if_pos hb).symm.trans z
        cases z'
        subst hb
        exact ⟨ha, by rw [List.length_map]; exact hl, vs, _, rv, ha⟩
      · have z' := (if_neg hb).symm.trans z
        cases z'
    · by_cases hb : b = a
      · exact hb
      · exact absurd (if_neg hb) z
end L2
namespace L2
open PySem PySem.Spec PyProof.Rows
noncomputable abbrev KOf {K : PySem.W.Frag} {h : Heap} (_ : K.In h) : PySem.W.Frag := K
theorem walk_of {l : PySem.W.OpenLaw} {n k : Nat} {q : Program} {loose : List Str} {XP : (Str -> Option Value) -> Heap -> Prop} {YP : World -> Heap -> Prop} {d : DefRec} {K : Params -> PySem.W.Frag} {CX : World -> CXT} {sp : World -> Sp} {x : Str}
    (hn : l.most = some n) (hn2 : n <= sizeLine) (hdf : d.params.defaults = []) (hr : Room k callerA)
    (hY : ∀ (w : World) (h : Heap), YP w h -> (K w.params).In h)
    (F : ∀ (w : World) (mg : Str -> Option Value) (fa : Addr) (h : Heap), (K w.params).In h -> h.Ns mainGlobals mg -> mg d.name = some (.ref fa) ->
      ∃ fd : FuncData, (∀ (s : Shared) (u : Value), BindsTo s fd ⟨[u], []⟩ [(x, u)]) /\
        ∀ base : Heap, (K w.params).In base -> base.Ns mainGlobals mg -> FnOk l.prog w (K w.params) mg base (CX w) k fa fd [x] (sp w))
    (hsp : ∀ (w : World) (H : Hp) (a : Addr) (ns : List Int), ns.length <= n -> Only H -> SqL (K w.params) H a (ns.map V.int) -> sp w [.ref a] H (fun v _ => v = .bl true) fun _ _ _ => False)
    (hCX : ∀ (w : World) (H : Hp) (s : Shared) (e : Value) (s' : Shared), CX w [] H s (fun _ _ _ => False) e s' -> False) :
    PySem.W.WalkO q loose XP YP l.row.toRowW d [] (fun f vs => PySem.call f vs) := by
  refine Att.attach_call hn hdf fun w s₀ s₁ mg mb fa o pm cd doc a vs ns G Y ho hd hcd hmg hobj hints hlen hg => ?_
  have KX := hY w _ Y
  obtain ⟨fd, hb, hF⟩ := F w mg fa _ KX G.T.g hmg
  exact law_call KX G.T.g G.T.b G.T.builtins G.T.nolimit hg hobj hints (Nat.le_trans hlen hn2) hr hF hb (fun H hO hS => hsp w H a ns hlen hO hS) fun H e s' => hCX w H s₁ e s'
end L2
/- THE LAST THEOREM (shape; LID, My.* are yours):
   My.Adr: a structure of the addresses that your layer names (classes, functions); My.Txt K t: a structure (Prop) of the equations over K;
   My.txt_mk : {K} {implicit addresses ..} (e1 : nsIn K mainGlobals "law" = some (some (.ref f))) (e2 : K.lookup f = some ⟨oc, od, .func (fnOf "law" "law" params body scope dV kV doc pm an cdv ct), sl⟩) (e3 : codeIn K cdv "law" = true) .. : ∃ t, My.Txt K t
set_option maxRecDepth 100000 in
set_option maxHeartbeats 0 in
theorem PySem.Challenge.cw_LID_holds : PySem.Challenge.rw_LID.Holds := by
  w_on; o_law; k_head; (case hw => w_witness2)
  k_fill
  refine L2.walk_of (l := PySem.Challenge.rw_LID) (n := 63) (k := 40) (x := "script") (CX := fun w => ..) (sp := fun _ => My.sp_law) rfl (by decide) rfl ⟨rfl, by decide, by decide⟩ (fun w h Y => PySem.W.kIn_of Y) ?F ?S ?C
  case F =>
    intro w mg fa h KX G hmg
    have T : ∃ t, My.Txt (L2.KOf KX) t := by
      dsimp only [L2.KOf]                          -- K must stand as «<heap const> w.params» for k_is
      refine' My.txt_mk ?e1 ?e2 ?e3 ..
      (case e1 => PySem.W.k_is)                    -- in the order: a name -> its address -> its object -> its parts
      (case e2 => PySem.W.k_is)
      ..
    obtain ⟨t, T⟩ := T
    have e0 := hmg.symm.trans (PySem.W.mg_of KX G T.law)
    cases e0                                       -- fa is the law's own address
    exact ⟨_, fun s u => .of_eq rfl, fun base kb nb => My.law_fn T kb nb⟩     -- if «.of_eq rfl» comes too early: refine' ⟨_, ?b, fun base kb nb => My.law_fn T kb nb⟩; exact fun s u => .of_eq rfl
  case S => exact fun w H a ns hl hO hS => ..
  case C => exact ..
(the tactic k_is has no namespace: write k_is) -/
namespace L2
open PySem PySem.Spec PyProof.Rows
noncomputable def defArgs (s : Stmt) : Arguments := match s with
  | .FunctionDef _ a _ _ _ _ _ _ _ _ => a
  | _ => { posonlyargs := [], args := [], vararg := none, kwonlyargs := [], kw_defaults := [], kwarg := none, defaults := [] }
noncomputable def defBody (s : Stmt) : List Stmt := match s with
  | .FunctionDef _ _ b _ _ _ _ _ _ _ => b
  | _ => []
noncomputable def defScope (s : Stmt) : Scope := match s with
  | .FunctionDef _ _ _ _ _ _ sc _ _ _ => sc
  | _ => { kind := .function, names := [], isGenerator := false, isCoroutine := false }
noncomputable abbrev CX0 : CXT := fun _ _ _ _ _ _ => False
noncomputable abbrev E0 : XK := fun _ _ _ => False
theorem pass0 {X : Cx} : Passes CX0 X E0 := fun _ _ _ _ _ _ _ h => h.elim
structure Fun (K : PySem.W.Frag) (x qual : Str) (st : Stmt) (f : Addr) (fd : FuncData) : Prop where
  ex : ∃ (oc : Value) (od : Option Addr) (kV doc pm : Value) (an : Option Addr) (cdv ct : Value) (osl : Array (Option Value)),
    fd = PySem.W.fnOf x qual (defArgs st) (defBody st) (defScope st) .none kV doc pm an cdv ct /\ K.lookup f = some ⟨oc, od, .func fd, osl⟩ /\ PySem.W.codeIn K cdv qual = true
  kp : PySem.W.keepIn K (.ref f) = true
section
variable {P : Program} {w : World} {K : PySem.W.Frag} {mg : Str -> Option Value} {base : Heap}
theorem Fun.ok {x qual : Str} {st : Stmt} {f : Addr} {fd : FuncData} {N ps : List Str} {k : Nat} {sp : Sp} (F : Fun K x qual st f fd) (S : FnScope N ps (defScope st)) (len : ∀ vs H Q E, sp vs H Q E -> vs.length = ps.length)
    (hbody : ∀ (cdv : Value) (A : Around) (outer : List Env) (s : Shared) (H : Hp) (vs : List V) (Q : VK) (E : XK), Room k (A.deeper (envOfC qual (defScope st) s.heap.objs.size f cdv)) -> sp vs H Q E ->
      ∃ t, PSs (cxOf CX0 P w K mg base N qual (defScope st) f cdv A outer s H E).nox (defBody st) t /\ t { nx := fun _ H' => Q .non H', rt := Q } (start N vs) H) : FnOk P w K mg base CX0 (k + 1) f fd ps sp := by
  obtain ⟨oc, od, kV, doc, pm, an, cdv, ct, osl, rfl, lk, hcd⟩ := F.ex
  refine fn_of lk hcd S len fun A outer s H vs Q E hr hsp => ?_
  obtain ⟨t, h, q⟩ := hbody cdv A outer s H vs Q E hr hsp
  exact ⟨t, h.nox, q⟩
theorem Fun.binds {x qual : Str} {st : Stmt} {f : Addr} {fd : FuncData} {ps : List Str} (F : Fun K x qual st f fd)
    (h : ∀ (kV doc pm : Value) (an : Option Addr) (cdv ct : Value) (us : List Value), us.length = ps.length -> bindArgs (PySem.W.fnOf x qual (defArgs st) (defBody st) (defScope st) .none kV doc pm an cdv ct) ⟨us, []⟩ = pure (ps.zip us)) : Binds K fd ps [] := by
  obtain ⟨oc, od, kV, doc, pm, an, cdv, ct, osl, rfl, lk, hcd⟩ := F.ex
  exact .all (h kV doc pm an cdv ct)
theorem fun_mk {x qual : Str} {st : Stmt} {f : Addr} {oc : Value} {od an : Option Addr} {osl : Array (Option Value)} {kV doc pm cdv ct : Value} (l : K.lookup f = some ⟨oc, od, .func (PySem.W.fnOf x qual (defArgs st) (defBody st) (defScope st) .none kV doc pm an cdv ct), osl⟩)
    (c : PySem.W.codeIn K cdv qual = true) (k : PySem.W.keepIn K (.ref f) = true) : Fun K x qual st f (PySem.W.fnOf x qual (defArgs st) (defBody st) (defScope st) .none kV doc pm an cdv ct) := ⟨⟨oc, od, kV, doc, pm, an, cdv, ct, osl, rfl, l, c⟩, k⟩
end
theorem hu_of {A : Around} {k : Nat} (hr : Room k A) : A.units + 1 < cLine := Nat.lt_of_le_of_lt (Nat.add_le_add_left (by decide : 1 <= 64) _) hr.units
section
variable {X : Cx}
theorem pv (i : Nat) {x : Str} {pos : Pos} (hN : X.N[i]? = some x := by rfl) (hv : Vis X.env.scope x := by first | exact Or.inl rfl | exact Or.inr (Or.inl rfl) | exact Or.inr (Or.inr rfl)) (hd : (x == ("__debug__" : Str)) = false := by decide)
    (hcd : (x == ("__classdict__" : Str)) = false := by decide) : PE X (.Name x pos) (tVar i) := pe_var hN hv hd hcd
end
theorem iteF {A B : Prop} (h : B) : if false = true then A else B := by
  rw [if_neg Bool.false_ne_true]
  exact h
theorem iteT {A B : Prop} (h : A) : if true = true then A else B := by
  rw [if_pos rfl]
  exact h
theorem ite2 {c A B : Prop} [Decidable c] (h1 : c -> A) (h2 : ¬ c -> B) : if c then A else B := by
  by_cases h : c
  · rw [if_pos h]
    exact h1 h
  · rw [if_neg h]
    exact h2 h
noncomputable def Same (H H' : Hp) : Prop := ∀ b o, H b = some o -> H' b = some o
theorem Same.refl (H : Hp) : Same H H := fun _ _ h => h
theorem Same.trans {H H1 H2 : Hp} (a : Same H H1) (b : Same H1 H2) : Same H H2 := fun c o h => b c o (a c o h)
theorem Same.free {H H' : Hp} (e : Same H H') {l : Addr} (h : H' l = Option.none) : H l = Option.none := by
  cases q : H l with
  | none => rfl
  | some o =>
    rw [e l o q] at h
    cases h
theorem Same.seq {K : PySem.W.Frag} {H H' : Hp} {a : Addr} {xs : List V} (e : Same H H') (h : SqL K H a xs) : SqL K H' a xs := by
  rcases h with (h | ⟨o, h⟩) | h
  · exact .inl (.inl (e _ _ h))
  · exact .inl (.inr ⟨o, e _ _ h⟩)
  · exact .inr h
end L2
namespace L2
open PySem PySem.Spec PyProof.Rows
noncomputable def clOf (env : Env) : List (Str × NameKind) -> List (Str × Addr) -> List (Str × Addr)
  | [], acc => acc
  | (n, k) :: r, acc => clOf env r (if k == .free then (match env.cells.lookup n with | some a => (n, a) :: acc | none => acc) else acc)
theorem closureFor_loop {env : Env} : ∀ (names : List (Str × NameKind)) (acc : List (Str × Addr)), (∀ y ∈ names, y.2 = .free -> ∃ c, env.cells.lookup y.1 = some c) ->
    (forIn names acc fun (x : Str × NameKind) (cs : List (Str × Addr)) => (if (x.2 == NameKind.free) = true then do let a <- cellOf env x.1; pure (ForInStep.yield ((x.1, a) :: cs)) else pure (ForInStep.yield cs) : Sem (ForInStep (List (Str × Addr))))) = pure (clOf env names acc)
  | [], acc, _ => rfl
  | (n, k) :: r, acc, h => by
    rw [List.forIn_cons]
    have hr : ∀ y ∈ r, y.2 = .free -> ∃ c, env.cells.lookup y.1 = some c := fun y hy => h y (List.mem_cons_of_mem _ hy)
    cases hk : (k == NameKind.free) with
    | false =>
      have e1 : clOf env ((n, k) :: r) acc = clOf env r acc := by
        show clOf env r (if (k == NameKind.free) = true then (match env.cells.lookup n with | some a => (n, a) :: acc | none => acc) else acc) = _
        rw [hk, if_neg Bool.false_ne_true]
      rw [e1, <- closureFor_loop r acc hr]
      simp only [hk, Bool.false_eq_true, if_false, pure_bind]
    | true =>
      obtain ⟨c, hc⟩ := h (n, k) List.mem_cons_self (by simpa using hk)
      have e1 : clOf env ((n, k) :: r) acc = clOf env r ((n, c) :: acc) := by
        have hc' : env.cells.lookup n = some c := hc
        show clOf env r (if (k == NameKind.free) = true then (match env.cells.lookup n with | some a => (n, a) :: acc | none => acc) else acc) = _
        rw [hk, hc', if_pos rfl]
      have e2 : cellOf env n = pure c := by
        have hc' : env.cells.lookup n = some c := hc
        unfold cellOf
        rw [hc']
      rw [e1, <- closureFor_loop r ((n, c) :: acc) hr]
      simp only [hk, if_true, e2, pure_bind]
theorem closureFor_cl {scope : Scope} {env : Env} (h : ∀ y ∈ scope.names, y.2 = .free -> ∃ c, env.cells.lookup y.1 = some c) : closureFor scope env = pure (clOf env scope.names []) := by
  have e := closureFor_loop scope.names [] h
  simp only [closureFor]
  rw [e]
  rfl
theorem clOf_from {env : Env} {x : Str} {c : Addr} : ∀ (names : List (Str × NameKind)) (acc : List (Str × Addr)), (∀ y d, acc.lookup y = some d -> env.cells.lookup y = some d) -> (clOf env names acc).lookup x = some c -> env.cells.lookup x = some c
  | [], acc, ha, h => ha x c h
  | (n, k) :: r, acc, ha, h => by
    refine clOf_from r _ (fun y d q => ?_) h
    by_cases hk : (k == NameKind.free) = true
    · rw [if_pos hk] at q
      cases e : env.cells.lookup n with
      | none => rw [e] at q; exact ha y d q
      | some a =>
        rw [e] at q
        have q' : List.lookup y ((n, a) :: acc) = some d := q
        rw [List.lookup_cons] at q'
        cases hy : (y == n) with
        | true =>
          rw [hy] at q'
          have : y = n := by simpa using hy
          subst this
          rw [e]; exact q'
        | false => rw [hy] at q'; exact ha y d q'
    · rw [if_neg hk] at q; exact ha y d q
theorem clOf_acc {env : Env} {x : Str} : ∀ (names : List (Str × NameKind)) (acc : List (Str × Addr)), (∃ c, acc.lookup x = some c) -> ∃ c, (clOf env names acc).lookup x = some c
  | [], acc, h => h
  | (n, k) :: r, acc, ⟨c, hc⟩ => by
    refine clOf_acc r _ ?_
    by_cases hk : (k == NameKind.free) = true
    · rw [if_pos hk]
      cases e : env.cells.lookup n with
      | none => exact ⟨c, hc⟩
      | some a =>
        show ∃ c, List.lookup x ((n, a) :: acc) = some c
        rw [List.lookup_cons]
        cases hy : (x == n) with
        | true => exact ⟨a, rfl⟩
        | false => exact ⟨c, hc⟩
    · rw [if_neg hk]; exact ⟨c, hc⟩
theorem clOf_has {env : Env} {x : Str} : ∀ (names : List (Str × NameKind)) (acc : List (Str × Addr)), (∀ y ∈ names, y.2 = .free -> ∃ c, env.cells.lookup y.1 = some c) -> names.lookup x = some .free -> ∃ c, (clOf env names acc).lookup x = some c
  | [], acc, _, h => by simp at h
  | (n, k) :: r, acc, hf, h => by
    have hr : ∀ y ∈ r, y.2 = .free -> ∃ c, env.cells.lookup y.1 = some c := fun y hy => hf y (List.mem_cons_of_mem _ hy)
    rw [List.lookup_cons] at h
    cases hy : (x == n) with
    | true =>
      rw [hy] at h
      have hk : k = .free := Option.some.inj h
      subst hk
      have hx : x = n := by simpa using hy
      subst hx
      obtain ⟨c, hc⟩ := hf (x, .free) List.mem_cons_self rfl
      have hc' : env.cells.lookup x = some c := hc
      refine clOf_acc r _ ⟨c, ?_⟩
      rw [if_pos (show (NameKind.free == NameKind.free) = true by decide), hc']
      show List.lookup x ((x, c) :: acc) = some c
      rw [List.lookup_cons]
      simp
    | false =>
      rw [hy] at h
      exact clOf_has r _ hr h
theorem relabel_free {env : Env} : ∀ {names : List (Str × NameKind)} {x : Str}, names.lookup x = some .free ->
    ((names.map fun (n, k) => if (k == NameKind.free && env.scope.kind == .function && env.kindOf n == some .cell) then (n, NameKind.cell) else (n, k)).lookup x = some .cell \/
     (names.map fun (n, k) => if (k == NameKind.free && env.scope.kind == .function && env.kindOf n == some .cell) then (n, NameKind.cell) else (n, k)).lookup x = some .free)
  | [], _, h => by simp at h
  | (n, k) :: r, x, h => by
    have ih := @relabel_free env r x
    show (List.lookup x ((if (k == NameKind.free && env.scope.kind == .function && env.kindOf n == some .cell) = true then (n, NameKind.cell) else (n, k)) :: _) = _ \/ List.lookup x ((if (k == NameKind.free && env.scope.kind == .function && env.kindOf n == some .cell) = true then (n, NameKind.cell) else (n, k)) :: _) = _)
    cases hx : x == n with
    | true =>
      simp only [List.lookup_cons, hx] at h
      cases h
      by_cases hc : ((NameKind.free == NameKind.free) && env.scope.kind == .function && env.kindOf n == some .cell) = true
      · rw [if_pos hc]; simp [List.lookup_cons, hx]
      · rw [if_neg hc]; simp [List.lookup_cons, hx]
    | false =>
      simp only [List.lookup_cons, hx] at h
      by_cases hc : (k == NameKind.free && env.scope.kind == .function && env.kindOf n == some .cell) = true
      · rw [if_pos hc]; simp only [List.lookup_cons, hx]; exact ih h
      · rw [if_neg hc]; simp only [List.lookup_cons, hx]; exact ih h
theorem relabel_back {env : Env} : ∀ {names : List (Str × NameKind)} {x : Str}, (∀ y ∈ names, y.2 ≠ .cell) ->
    ((names.map fun (n, k) => if (k == NameKind.free && env.scope.kind == .function && env.kindOf n == some .cell) then (n, NameKind.cell) else (n, k)).lookup x = some .cell \/
     (names.map fun (n, k) => if (k == NameKind.free && env.scope.kind == .function && env.kindOf n == some .cell) then (n, NameKind.cell) else (n, k)).lookup x = some .free) -> names.lookup x = some .free
  | [], _, _, h => by simp at h
  | (n, k) :: r, x, hn, h => by
    have ih := @relabel_back env r x (fun y hy => hn y (List.mem_cons_of_mem _ hy))
    have hk := hn (n, k) List.mem_cons_self
    have h' : (List.lookup x ((if (k == NameKind.free && env.scope.kind == .function && env.kindOf n == some .cell) = true then (n, NameKind.cell) else (n, k)) :: (r.map fun (n, k) => if (k == NameKind.free && env.scope.kind == .function && env.kindOf n == some .cell) then (n, NameKind.cell) else (n, k))) = some .cell \/ List.lookup x ((if (k == NameKind.free && env.scope.kind == .function && env.kindOf n == some .cell) = true then (n, NameKind.cell) else (n, k)) :: (r.map fun (n, k) => if (k == NameKind.free && env.scope.kind == .function && env.kindOf n == some .cell) then (n, NameKind.cell) else (n, k))) = some .free) := h
    cases hx : x == n with
    | true =>
      rw [List.lookup_cons, hx]
      by_cases hc : (k == NameKind.free && env.scope.kind == .function && env.kindOf n == some .cell) = true
      · have : (k == NameKind.free) = true := by
          rw [Bool.and_eq_true, Bool.and_eq_true] at hc; exact hc.1.1
        have hk' : k = .free := by simpa using this
        rw [hk']
      · rw [if_neg hc] at h'
        simp only [List.lookup_cons, hx] at h'
        rcases h' with h' | h'
        · exact absurd (Option.some.inj h') hk
        · exact h'
    | false =>
      rw [List.lookup_cons, hx]
      by_cases hc : (k == NameKind.free && env.scope.kind == .function && env.kindOf n == some .cell) = true
      · rw [if_pos hc] at h'; simp only [List.lookup_cons, hx] at h'; exact ih h'
      · rw [if_neg hc] at h'; simp only [List.lookup_cons, hx] at h'; exact ih h'
noncomputable abbrev noE : Value -> Shared -> Prop := fun _ _ => False
theorem compLoop_gen {prog : Program} {w : World} {A : Around} {R : Result -> Shared -> Prop} {s : Shared} {elt target iter : Expr} {ifs : List Expr} {scope : Scope} {pos : Pos} {it acc : Value} {env : Env} (I : Nat -> Shared -> Prop)
    (turn : ∀ n s, I n s -> wpAny (model prog w) A (pyNext it) (fun r s₁ => match r with
      | none => R (.ok .next) s₁
      | some v => wpAny (model prog w) A (letOwnedTupleGo target it v) (fun _ s₁' => wpAny (model prog w) A (assign target env v) (fun _ s₂ =>
          wpAny (model prog w) A (forIn ifs true fun c r => if r = true then do let ok <- isTrue c env (eval c env); pure (ForInStep.yield ok) else pure (ForInStep.yield r)) (fun ok s₃ =>
            if ok = true then wpAny (model prog w) A (eval elt env) (fun x s₄ =>
              wpAny (model prog w) A (call (.builtin "list.append") [acc, x]) (fun _ s₅ => ∃ m, m < n /\ I m s₅) noE s₄) noE s₃
            else ∃ m, m < n /\ I m s₃) noE s₂) noE s₁') noE s₁) noE s)
    (n : Nat) (h : I n s) : codeAny (model prog w) A (.compLoop (.ListComp elt [⟨target, iter, ifs, 0⟩] scope pos) 0 it acc env) R s := by
  refine codeAny_loop rfl I (fun n s hI => ?_) n h
  show wpAny _ A ((compTurn (.ListComp elt [⟨target, iter, ifs, 0⟩] scope pos) 0 it acc env).onRaise (fun x => do noteFrame x env; theTreesLotGoes x)) _ _ s
  refine wpAny_noted ?_
  rw [compTurn_list]
  have no : ∀ {F : Value -> Shared -> Prop} (e : Value) (s' : Shared), noE e s' -> F e s' := fun _ _ h => h.elim
  refine wpAny_bind (wpAny_standAt (wpAny_bind (wpAny_mono (turn n s hI) (fun r s₁ h₁ => ?_) no)))
  cases r with
  | none => exact wpAny_pure h₁
  | some v =>
    refine wpAny_bind (wpAny_mono h₁ (fun _ s₁' h₁' => ?_) no)
    refine wpAny_bind (wpAny_mono h₁' (fun _ s₂ h₂ => wpAny_bind (wpAny_mono h₂ (fun ok s₃ h₃ => ?_) no)) no)
    cases ok with
    | false => exact wpAny_pure ⟨rfl, h₃⟩
    | true =>
      exact wpAny_bind (wpAny_bind (wpAny_mono h₃ (fun x s₄ h₄ => wpAny_bind (wpAny_mono h₄ (fun _ s₅ h₅ => wpAny_pure (wpAny_pure ⟨rfl, h₅⟩)) no)) no))
noncomputable def cxComp (X : Cx) (scope : Scope) (C : Addr) (Nc : List Str) (s : Shared) (H : Hp) (fp : List Addr) : Cx where
  prog := X.prog
  w := X.w
  K := X.K
  mg := X.mg
  base := X.base
  A := X.A
  N := Nc
  s₀ := s
  H₀ := H
  env := compEnvC scope (clOf X.env scope.names []) C X.env
  outer := X.stack
  stack := X.stack
  ex := fp
  fn := fun _ => false
  calm := X.calm
  pn := []
  xe := noE
noncomputable def IxOk (X : Cx) (scope : Scope) : List Str -> List (Option Nat) -> Prop
  | [], [] => True
  | _ :: ys, none :: os => IxOk X scope ys os
  | y :: ys, some j :: os => (X.N[j]? = some y /\ scope.names.lookup y = some .free /\ (X.env.kindOf y = some .cell \/ X.env.kindOf y = some .free)) /\ IxOk X scope ys os
  | _, _ => False
noncomputable def subSt (σ : St) (ix : List (Option Nat)) : St := ix.map fun o => match o with | none => none | some j => (σ[j]?).getD none
noncomputable def Wk : St -> St -> Prop
  | [], [] => True
  | none :: a, _ :: b => Wk a b
  | some v :: a, w :: b => w = some v /\ Wk a b
  | _, _ => False
theorem Wk.len : ∀ {a b : St}, Wk a b -> a.length = b.length
  | [], [], _ => rfl
  | none :: a, _ :: b, h => congrArg (· + 1) (Wk.len (a := a) (b := b) h)
  | some _ :: a, _ :: b, h => congrArg (· + 1) (Wk.len (a := a) (b := b) h.2)
theorem Wk.get : ∀ {a b : St} {i : Nat} {v : V}, Wk a b -> a[i]? = some (some v) -> b[i]? = some (some v)
  | [], [], i, v, _, h => by simp at h
  | none :: a, x :: b, 0, v, _, h => by simp at h
  | none :: a, x :: b, i + 1, v, k, h => by
    have := Wk.get (a := a) (b := b) (i := i) (v := v) k (by simpa using h)
    simpa using this
  | some y :: a, x :: b, 0, v, k, h => by
    have e : y = v := by simpa using h
    subst e
    simp [k.1]
  | some y :: a, x :: b, i + 1, v, k, h => by
    have := Wk.get (a := a) (b := b) (i := i) (v := v) k.2 (by simpa using h)
    simpa using this
theorem IxOk.len {X : Cx} {scope : Scope} : ∀ {N : List Str} {ix : List (Option Nat)}, IxOk X scope N ix -> ix.length = N.length
  | [], [], _ => rfl
  | _ :: ys, none :: os, h => congrArg (· + 1) (IxOk.len (N := ys) (ix := os) h)
  | _ :: ys, some _ :: os, h => congrArg (· + 1) (IxOk.len (N := ys) (ix := os) h.2)
theorem IxOk.get {X : Cx} {scope : Scope} : ∀ {N : List Str} {ix : List (Option Nat)} {i j : Nat}, IxOk X scope N ix -> ix[i]? = some (some j) -> ∃ y, N[i]? = some y /\ X.N[j]? = some y /\ scope.names.lookup y = some .free /\ (X.env.kindOf y = some .cell \/ X.env.kindOf y = some .free)
  | [], [], i, j, _, h => by simp at h
  | y :: ys, none :: os, 0, j, _, h => by simp at h
  | y :: ys, none :: os, i + 1, j, k, h => by
    obtain ⟨z, h1, h2⟩ := IxOk.get (N := ys) (ix := os) (i := i) (j := j) k (by simpa using h)
    exact ⟨z, by simpa using h1, h2⟩
  | y :: ys, some j' :: os, 0, j, k, h => by
    have e : j' = j := by simpa using h
    subst e
    exact ⟨y, by simp, k.1⟩
  | y :: ys, some j' :: os, i + 1, j, k, h => by
    obtain ⟨z, h1, h2⟩ := IxOk.get (N := ys) (ix := os) (i := i) (j := j) k.2 (by simpa using h)
    exact ⟨z, by simpa using h1, h2⟩
theorem subSt_get {σ : St} {ix : List (Option Nat)} {i : Nat} {v : V} (h : (subSt σ ix)[i]? = some (some v)) : ∃ j, ix[i]? = some (some j) /\ σ[j]? = some (some v) := by
  unfold subSt at h
  rw [List.getElem?_map] at h
  cases e : ix[i]? with
  | none => rw [e] at h; cases h
  | some o =>
    rw [e] at h
    cases o with
    | none => cases h
    | some j =>
      refine ⟨j, rfl, ?_⟩
      have h' : some ((σ[j]?).getD none) = some (some v) := h
      cases q : σ[j]? with
      | none => rw [q] at h'; cases h'
      | some z => rw [q] at h'; cases h'; rfl
end L2
namespace L2
open PySem PySem.Spec PyProof.Rows
theorem comp_start {X : Cx} {pins : List (Addr × Obj)} {σ : St} {H : Hp} {s : Shared} (I : Inv X pins σ H s) {scope : Scope} {Nc : List Str} {ix : List (Option Nat)} (hix : IxOk X scope Nc ix) (hcell : ∀ y ∈ scope.names, y.2 ≠ .cell)
    (hkind : scope.kind = .function) (hfr : ∀ y ∈ scope.names, y.2 = .free -> X.env.kindOf y.1 = some .cell \/ X.env.kindOf y.1 = some .free) {fp : List Addr} (hf : ∀ b ∈ fp, FpOk X pins H b) (hfo : ∀ b ∈ fp, ∃ o, s.heap.get? b = some o)
    {C : Addr} {h' : Heap} {t' : Nat} {m0 : Str -> Option Value} (hC : s.heap.objs.size <= C) (hns : h'.Ns C m0) (k : ∀ b o, s.heap.get? b = some o -> h'.get? b = some o) :
    Inv (cxComp X scope C Nc s H fp) [] (subSt σ ix) H { s with heap := h', toks := t' } := by
  have hfc : ∀ y ∈ scope.names, y.2 = .free -> ∃ c, X.env.cells.lookup y.1 = some c := fun y hy e => I.ok.has y.1 (hfr y hy e)
  have from_ : ∀ {x : Str} {c : Addr}, (clOf X.env scope.names []).lookup x = some c -> X.env.cells.lookup x = some c := fun {x c} e => clOf_from scope.names [] (fun y d q => by simp at q) e
  refine ⟨⟨I.ok.mod, hkind, I.ok.glob, I.ok.blt, hC, fun x y c h1 h2 => I.ok.inj x y c (from_ h1) (from_ h2), fun x hx => ?_, fun x c h => ?_, I.ok.hd, I.ok.frames, .inl rfl, fun b hb => ?_, I.bs, Nat.le_trans I.ok.bsz I.sz, fun b o e hb => ?_, fun b hb hs => ?_, I.stack, I.stkFree⟩,
    rfl, I.bare, Un.kept k, ⟨m0, hns, fun i x v h1 h2 h3 => ?_⟩, fun x c e => ?_, I.hok.fresh hC, fun x c e => I.freeC x c (from_ e), fun p hp => absurd (show p ∈ ([] : List (Addr × Obj)) from hp) (by simp), I.hok.kept k, ?_⟩
  · have hx' : scope.names.lookup x = some .free := relabel_back hcell hx
    exact clOf_has scope.names [] hfc hx'
  · exact absurd (show false = true from h) (by decide)
  · refine ⟨?_, fun x c e => (hf b hb).2.2.2.2.1 x c (from_ e)⟩
    obtain ⟨o, ho⟩ := hfo b hb
    exact Nat.ne_of_lt (Nat.lt_of_lt_of_le (Heap.lt_size ho) hC)
  · rcases (hf b hb).2.2.2.1 with z | z
    · exact I.ok.noex b o e z
    · exact absurd (Nat.lt_of_lt_of_le (Heap.lt_size e) (Nat.le_trans I.ok.bsz z)) (Nat.lt_irrefl _)
  · rcases List.mem_cons.mp (I.stkSub b hs) with z | z
    · exact (hf b hb).2.1 z
    · exact (hf b hb).2.2.1 z
  · obtain ⟨j, e1, e2⟩ := subSt_get h2
    obtain ⟨y, y1, y2, y3, y4⟩ := hix.get e1
    have h1' : Nc[i]? = some x := h1
    rw [y1] at h1'
    cases h1'
    obtain ⟨m, hn, hl⟩ := I.loc
    have hv : Vis X.env.scope x := by
      rcases y4 with z | z
      · exact .inr (.inl z)
      · exact .inr (.inr z)
    obtain ⟨u, r, l⟩ := hl j x v y2 e2 hv
    refine ⟨u, r, .inr ⟨relabel_free y3, ?_⟩⟩
    rcases l with ⟨l, _⟩ | ⟨_, c, hc, q⟩
    · rcases y4 with z | z
      · rw [z] at l; cases l
      · rw [z] at l; cases l
    · obtain ⟨c', hc'⟩ := clOf_has scope.names [] hfc y3
      have e := from_ hc'
      rw [hc] at e
      cases e
      obtain ⟨o, ho, hd⟩ := q
      exact ⟨c, hc', o, k _ _ ho, hd⟩
  · obtain ⟨v, o, ho, hd⟩ := I.cell x c (from_ e)
    exact ⟨v, o, k _ _ ho, hd⟩
  · show (subSt σ ix).length = Nc.length
    unfold subSt
    rw [List.length_map]
    exact hix.len
theorem comp_exit {X : Cx} {pins pins' : List (Addr × Obj)} {σ σ' : St} {H H' : Hp} {s s' : Shared} (I : Inv X pins σ H s) {scope : Scope} {Nc : List Str} {fp : List Addr} {C D : Addr} (J : Inv (cxComp X scope C Nc s H fp) pins' σ' H' s')
    (hf : ∀ b ∈ fp, FpOk X pins H b) (hD : s.heap.objs.size <= D) (hC : s.heap.objs.size <= C) (hDC : D ≠ C) {its : List Value} {n : Nat} {acc : List V} (eD : s'.heap.get? D = some { cls := .type "list", data := .seq its.toArray n }) (r : Vals acc its)
    (hz : acc.length <= sizeLine) (nD : H' D = none) {oC : Obj} (eC : s'.heap.get? C = some oC) (dC : ∀ v, oC.data ≠ .cell v) : Inv X (pins ++ [(C, oC)]) σ (upd H' D (.lst acc)) s' := by
  have lt : ∀ b o, s.heap.get? b = some o -> b ≠ D := fun b o e => Nat.ne_of_lt (Nat.lt_of_lt_of_le (Heap.lt_size e) hD)
  have U : Un (frs X.stack) fp H H' s.heap s'.heap := J.base
  have U' : Un (frs X.stack) fp H (upd H' D (.lst acc)) s.heap s'.heap :=
    ⟨U.keep, U.slot, fun b o e n hx => by rw [upd_ne (lt b o e)]; exact U.free b o e n hx, U.there, fun b xs e => by rw [upd_ne (ne_of_none (U.tups b xs e) nD)]; exact U.tups b xs e,
      fun b o u e => by rw [upd_ne (ne_of_none (U.frzs b o u e) nD)]; exact U.frzs b o u e, fun b ps e => by
        obtain ⟨more, q⟩ := U.tbls b ps e
        exact ⟨more, by rw [upd_ne (ne_of_none q nD)]; exact q⟩⟩
  have hok : HOk X.prog X.w (upd H' D (.lst acc)) s'.heap := fun b u e => by
    by_cases hb : b = D
    · subst hb
      rw [upd_same] at e; cases e
      exact ⟨hz, its, n, r, eD⟩
    · rw [upd_ne hb] at e
      exact (J.hok b u e).stay (fun c v _ q => q) (fun c q => by rw [upd_ne (ne_of_none q nD)]; exact q) fun c xs q => by rw [upd_ne (ne_of_none q nD)]; exact q
  have I' : Inv X pins σ (upd H' D (.lst acc)) s' := I.call' (ch := fp) J.os U' hok J.bare fun b hb => by
    obtain ⟨_, h1, _, h2, h3, h4⟩ := hf b hb
    exact ⟨h2, h1, h3, h4⟩
  refine I'.pins_of fun p hp => ?_
  rcases List.mem_append.mp hp with z | z
  · exact I'.pin p (List.mem_append_right _ z)
  · have e : p = (C, oC) := List.mem_singleton.mp z
    subst e
    refine ⟨eC, ?_, Nat.ne_of_gt (Nat.lt_of_lt_of_le I.lt hC), I.nofs hC, dC⟩
    rw [upd_ne (Ne.symm hDC)]
    exact J.free
noncomputable def PF (Y : Cx) (ifs : List Expr) (tc : TT) : Prop :=
  ∀ (pins : List (Addr × Obj)) (s : Shared) (σ : St) (H : Hp) (Q : Bool -> Hp -> Prop), Inv Y pins σ H s -> tc σ H Q ->
    wpAny (model Y.prog Y.w) Y.A (forIn ifs true fun c r => if r = true then do let ok <- isTrue c Y.env (eval c Y.env); pure (ForInStep.yield ok) else pure (ForInStep.yield r)) (TP Y pins σ Q) Y.xe s
noncomputable def tYes : TT := fun _ H Q => Q true H
theorem pf_nil {Y : Cx} : PF Y [] tYes := fun _ _ _ H _ I h => wpAny_tests_nil ⟨H, I, h⟩
theorem pf_one {Y : Cx} {c : Expr} {tc : TT} (h : PT Y c tc) : PF Y [c] tc := fun pins s σ H Q I hw => wpAny_tests_one (h pins s σ H Q I hw)
noncomputable def CompW (J : It) (σc : St) (g : TG) (tc : TT) (te : TE) (Q : VK) (H1 : Hp) : Prop :=
  ∃ W : Nat -> Nat -> List V -> Hp -> Prop, (∃ m, W 0 m [] H1) /\ ∀ i m acc H, W i m acc H -> acc.length < sizeLine /\
  ((J.stop i H /\ ∀ D, H D = none -> Q (.ref D) (upd H D (.lst acc))) \/
   (J.go i H /\ ∀ x H', J.yld i H x H' -> g x σc H' fun σ2 H2 => Wk σc σ2 /\ tc σ2 H2 fun b H3 => if b = true then te σ2 H3 fun v H4 => ∃ m', m' < m /\ W (i + 1) m' (acc ++ [v]) H4 else ∃ m', m' < m /\ W (i + 1) m' acc H3))
noncomputable def tComp (wi : TI) (ix : List (Option Nat)) (g : TG) (tc : TT) (te : TE) : TE := fun σ H Q => wi σ H fun J H1 => CompW J (subSt σ ix) g tc te Q H1
theorem comp_core {X : Cx} {tg iter elt : Expr} {ifs : List Expr} {scope : Scope} {pos : Pos} {wi : TI} {g : TG} {tc : TT} {te : TE} {Nc : List Str} {ix : List (Option Nat)} (hi : PI X tg iter wi) (hcalm : X.calm = true) (hix : IxOk X scope Nc ix)
    (hcell : ∀ y ∈ scope.names, y.2 ≠ .cell) (hkind : scope.kind = .function) (hfr : ∀ y ∈ scope.names, y.2 = .free -> X.env.kindOf y.1 = some .cell \/ X.env.kindOf y.1 = some .free)
    (hG : ∀ C s H fp, PG (cxComp X scope C Nc s H fp) tg g) (hT : ∀ C s H fp, PF (cxComp X scope C Nc s H fp) ifs tc) (hE : ∀ C s H fp, PE (cxComp X scope C Nc s H fp) elt te)
    {pins : List (Addr × Obj)} {s : Shared} {σ : St} {H : Hp} {Q : VK} (I : Inv X pins σ H s) (h : tComp wi ix g tc te σ H Q) {RR : Value -> Addr -> Result -> Shared -> Prop}
    (hRR : ∀ (D C : Addr) (oC : Obj) (m : Str -> Option Value) (H' : Hp) (s' : Shared), s'.heap.get? C = some oC -> s'.heap.Ns C m -> FpOk X pins H' C -> Inv X (pins ++ [(C, oC)]) σ H' s' -> Q (.ref D) H' -> RR (.ref D) C (.ok .next) s') :
    wpAny (model X.prog X.w) X.A (eval iter X.env) (fun v s1 => wpAny (model X.prog X.w) X.A (pyIter v) (fun it s2 => wpAny (model X.prog X.w) X.A (newList []) (fun acc s3 =>
      wpAny (model X.prog X.w) X.A (newFunctionEnv scope X.env.globals (clOf X.env scope.names []) [] X.env.qual none .none (some X.env)) (fun cenv s4 =>
        codeAny (model X.prog X.w) X.A (.compStart (.ListComp elt [⟨tg, iter, ifs, 0⟩] scope pos) 0 it acc { cenv with scope := relabel scope X.env }) (RR acc cenv.locals) s4) X.xe s3) X.xe s2) X.xe s1) X.xe s := by
  refine thn (hi pins s σ H _ I h) fun v s1 h1 => thn h1 fun itv s2 h2 => ?_
  obtain ⟨it, fp, tn, J, H2, e, I2, T, st2, f2, W, ⟨m0, w0⟩, turn⟩ := h2
  subst e
  refine wpAny_newObj_type (wpAny_newFunctionEnv hcell (by intro y hy; simp at hy) (fun h₁ hns₁ hsb₁ => ?_) hkind)
  dsimp only at hns₁ hsb₁ ⊢
  generalize hH2 : s2.heap.push { cls := .type "list", dict := none, data := .seq ([] : List Value).toArray } = P2 at hns₁ hsb₁ ⊢
  have hC : P2.objs.size = s2.heap.objs.size + 1 := by rw [<- hH2, Heap.size_push]
  have hDC : s2.heap.objs.size ≠ P2.objs.size := by rw [hC]; exact Nat.ne_of_lt (Nat.lt_succ_self _)
  have hCle : s2.heap.objs.size <= P2.objs.size := by rw [hC]; exact Nat.le_succ _
  have neC : ∀ b, b < s2.heap.objs.size -> b ≠ P2.objs.size := fun b hb => by rw [hC]; exact Nat.ne_of_lt (Nat.lt_succ_of_lt hb)
  have old : ∀ b o, s2.heap.get? b = some o -> h₁.get? b = some o := fun b o e => hsb₁.extBut b o (neC b (Heap.lt_size e)) (Heap.get?_push_of_some _ (hH2 ▸ Heap.get?_push_of_some _ e))
  have hacc : h₁.get? s2.heap.objs.size = some { cls := .type "list", data := .seq ([] : List Value).toArray } := hsb₁.extBut _ _ hDC (Heap.get?_push_of_some _ (hH2 ▸ Heap.get?_push_size _ rfl))
  have st₁ : tn 0 h₁ := T.keep 0 _ _ st2 fun b _ o e => old b o e
  have hfo : ∀ b ∈ fp, ∃ o, s2.heap.get? b = some o := fun b hb => let ⟨o, e, _⟩ := T.obj 0 _ st2 b hb; ⟨o, e⟩
  have fpD : ∀ b ∈ fp, s2.heap.objs.size ≠ b := fun b hb => let ⟨o, e⟩ := hfo b hb; Nat.ne_of_gt (Heap.lt_size e)
  have IY := comp_start I2 hix hcell hkind hfr f2 hfo (t' := s2.toks + ([] : List (Str × Value)).length) hCle hns₁ old
  have notS : ∀ b, s2.heap.objs.size <= b -> b ∉ frs X.stack := fun b hb hs => by
    rcases List.mem_cons.mp (I2.stkSub b hs) with z | z
    · exact absurd (Nat.lt_of_lt_of_le I2.lt hb) (by rw [z]; exact Nat.lt_irrefl _)
    · exact I2.nofs hb z
  have from_ : ∀ {x : Str} {c : Addr}, (clOf X.env scope.names []).lookup x = some c -> X.env.cells.lookup x = some c := fun {x c} e => clOf_from scope.names [] (fun y d q => by simp at q) e
  have cellD : ∀ x c, (clOf X.env scope.names []).lookup x = some c -> c ≠ s2.heap.objs.size := fun x c e z => by
    obtain ⟨v, q⟩ := I2.cell x c (from_ e)
    exact absurd (q.lt) (by rw [z]; exact Nat.lt_irrefl _)
  have fY : ∀ {pl : List (Addr × Obj)} {H' : Hp}, (∀ p ∈ pl, p.1 = s2.heap.objs.size) -> (∀ b ∈ fp, H' b = none) -> ∀ b ∈ fp, FpOk (cxComp X scope P2.objs.size Nc s2 H2 fp) pl H' b := fun {pl H'} hpl hn b hb => by
    refine ⟨hn b hb, ?_, ?_, .inl hb, fun x c e => (f2 b hb).2.2.2.2.1 x c (from_ e), fun p hp => ?_⟩
    · obtain ⟨o, e⟩ := hfo b hb
      exact neC b (Heap.lt_size e)
    · intro hs
      rcases List.mem_cons.mp (I2.stkSub b hs) with z | z
      · exact (f2 b hb).2.1 z
      · exact (f2 b hb).2.2.1 z
    · rw [hpl p hp]
      exact fpD b hb
  have loop : ∀ s₃ : Shared, s₃ = { s2 with heap := h₁, toks := s2.toks + ([] : List (Str × Value)).length } ->
      codeAny (model X.prog X.w) X.A (.compLoop (.ListComp elt [⟨tg, iter, ifs, 0⟩] scope pos) 0 (.ref it) (.ref s2.heap.objs.size) (compEnvC scope (clOf X.env scope.names []) P2.objs.size X.env)) (RR (.ref s2.heap.objs.size) P2.objs.size) s₃ := by
    rintro s₃ rfl
    refine compLoop_gen (fun n s' => ∃ i acc its nn H', Inv (cxComp X scope P2.objs.size Nc s2 H2 fp) [] (subSt σ ix) H' s' /\ tn i s'.heap /\ (∀ b ∈ fp, H' b = none) /\
      s'.heap.get? s2.heap.objs.size = some { cls := .type "list", data := .seq (its : List Value).toArray nn } /\ Vals acc its /\ H' s2.heap.objs.size = none /\ W i n acc H') ?_ m0
      ⟨0, [], [], 0, H2, IY, st₁, fun b hb => (f2 b hb).1, hacc, .nil, I2.hok.fresh (Nat.le_refl _), w0⟩
    rintro n s3 ⟨i, acc, its, nn, H3, I3, st3, fr3, eD, rv, nD, w3⟩
    obtain ⟨hz, alt⟩ := turn i n acc H3 w3
    have IP : Inv (cxComp X scope P2.objs.size Nc s2 H2 fp) [(s2.heap.objs.size, { cls := .type "list", data := .seq its.toArray nn })] (subSt σ ix) H3 s3 := I3.pins_of fun p hp => by
      have e : p = (s2.heap.objs.size, _) := List.mem_singleton.mp hp
      subst e
      refine ⟨eD, nD, hDC, notS _ (Nat.le_refl _), fun v z => ?_⟩
      have z' : Data.seq its.toArray nn = Data.cell v := z
      cases z'
    have hpl : ∀ p ∈ [(s2.heap.objs.size, ({ cls := .type "list", data := .seq its.toArray nn } : Obj))], p.1 = s2.heap.objs.size := fun p hp => by
      have e : p = (s2.heap.objs.size, _) := List.mem_singleton.mp hp
      rw [e]
    rcases alt with ⟨stop, fin⟩ | ⟨go, step⟩
    · refine thn (T.done (cxComp X scope P2.objs.size Nc s2 H2 fp) rfl rfl rfl hcalm i _ s3 _ H3 noE IP (fY hpl fr3) st3 stop) fun r s4 ⟨hr, I4⟩ => ?_
      subst hr
      obtain ⟨m, hn, _⟩ := id I4.loc
      obtain ⟨oC, es, ep, eC, dC, _⟩ := id hn
      have eD4 := (I4.pin (s2.heap.objs.size, _) (List.mem_append_right _ (List.mem_singleton.mpr rfl))).1
      have fin' := fin _ nD
      refine hRR _ _ oC m _ s4 eC hn ?_ (comp_exit I2 I4 f2 (Nat.le_refl _) hCle hDC eD4 rv (Nat.le_of_lt hz) nD eC fun v z => ?_) fin'
      · refine I2.fpOk hCle ?_
        rw [upd_ne (Ne.symm hDC)]
        exact I4.free
      · rw [dC] at z; cases z
    · refine thn (T.item (cxComp X scope P2.objs.size Nc s2 H2 fp) rfl rfl rfl hcalm i _ s3 _ H3 noE IP (fY hpl fr3) st3 go) fun r s4 ⟨u, hr, h4⟩ => ?_
      subst hr
      refine thn h4 fun _ s5 ⟨x, H5, I5, r5, y5, st5, fr5⟩ => ?_
      have I5' := I5.pinned (fY hpl fr5) (T.obj _ _ st5)
      refine thn (hG _ s2 H2 fp _ s5 _ H5 x u _ I5' r5 (step x H5 y5)) fun _ s6 ⟨σ6, H6, I6, wk, q6⟩ => ?_
      refine thn (hT _ s2 H2 fp _ s6 σ6 H6 _ I6 q6) fun b s7 ⟨H7, I7, q7⟩ => ?_
      have again : ∀ {H9 : Hp} {s9 : Shared} {m' : Nat}, Inv (cxComp X scope P2.objs.size Nc s2 H2 fp) ([(s2.heap.objs.size, ({ cls := .type "list", data := .seq its.toArray nn } : Obj))] ++ pinsAt fp s5.heap) σ6 H9 s9 ->
          (s9.heap.get? s2.heap.objs.size = some { cls := .type "list", data := .seq its.toArray nn } /\ H9 s2.heap.objs.size = none) /\ tn (i + 1) s9.heap /\ (∀ b ∈ fp, H9 b = none) /\ Inv (cxComp X scope P2.objs.size Nc s2 H2 fp) [] (subSt σ ix) H9 s9 := fun {H9 s9 m'} I9 => by
        have pD := I9.pin (s2.heap.objs.size, _) (List.mem_append_right _ (List.mem_append_left _ (List.mem_singleton.mpr rfl)))
        refine ⟨⟨pD.1, pD.2.1⟩, T.keep _ _ _ st5 fun b hb o e => (I9.pin (b, o) (List.mem_append_right _ (List.mem_append_right _ (mem_pinsAt hb e)))).1, fun b hb => ?_, ?_⟩
        · obtain ⟨o, e, d⟩ := T.obj _ _ st5 b hb
          exact (I9.pin (b, o) (List.mem_append_right _ (List.mem_append_right _ (mem_pinsAt hb e)))).2.1
        · exact (I9.weak wk.len fun i v e => wk.get e).pins_of fun p hp => absurd hp (by simp)
      cases b with
      | false =>
        rw [if_neg Bool.false_ne_true] at q7 ⊢
        obtain ⟨m', hm, w7⟩ := q7
        obtain ⟨⟨e7, n7⟩, t7, f7, J7⟩ := again (m' := 0) I7
        exact ⟨m', hm, i + 1, acc, its, nn, H7, J7, t7, f7, e7, rv, n7, w7⟩
      | true =>
        rw [if_pos rfl] at q7 ⊢
        refine thn (hE _ s2 H2 fp _ s7 σ6 H7 _ I7 q7) fun y s8 ⟨v, H8, I8, r8, m', hm, w8⟩ => ?_
        obtain ⟨⟨e8, n8⟩, t8, f8, J8⟩ := again (m' := 0) I8
        refine wpAny_list_append_plain (items := its.toArray) ⟨nn, e8⟩ (fun h9 hl9 hs9 => ?_) (by rw [List.size_toArray, <- rv.length]; exact Nat.le_of_lt hz)
        obtain ⟨n9, e9⟩ := hl9
        refine ⟨m', hm, i + 1, acc ++ [v], its ++ [y], n9, H8, J8.turned (t' := s8.toks) (fun b o hb e => (hs9.2 b hb).trans e) n8 hDC (.inr (Nat.le_refl _)) cellD (fun p hp => absurd hp (by simp [cxComp])), ?_, f8, ?_, rv.append (.cons r8 .nil), n8, w8⟩
        · exact T.keep _ _ _ t8 fun b hb o e => (hs9.2 b (Ne.symm (fpD b hb))).trans e
        · simpa using e9
  exact codeAny_compStart_list (loop _ rfl) (T.self _ 0 _ _ _ st₁ (loop _ rfl))
theorem pe_comp {X : Cx} {tg iter elt : Expr} {ifs : List Expr} {scope : Scope} {pos : Pos} {wi : TI} {g : TG} {tc : TT} {te : TE} (Nc : List Str) (ix : List (Option Nat)) (hi : PI X tg iter wi) (hcalm : X.calm = true) (hix : IxOk X scope Nc ix)
    (hcell : ∀ y ∈ scope.names, y.2 ≠ .cell) (hkind : scope.kind = .function) (hfr : ∀ y ∈ scope.names, y.2 = .free -> X.env.kindOf y.1 = some .cell \/ X.env.kindOf y.1 = some .free)
    (hnames : ∀ x ∈ scope.names, x.2 = .local -> scope.names.lookup x.1 = some .local)
    (hG : ∀ C s H fp, PG (cxComp X scope C Nc s H fp) tg g) (hT : ∀ C s H fp, PF (cxComp X scope C Nc s H fp) ifs tc) (hE : ∀ C s H fp, PE (cxComp X scope C Nc s H fp) elt te)
    (hs : ∀ x, foldedSetIterable iter X.env x = pure x := by intro _; rfl) : PE X (.ListComp elt [⟨tg, iter, ifs, 0⟩] scope pos) (tComp wi ix g tc te) := by
  intro pins s σ H Q I h
  rw [eval_ListComp]
  have hfc : ∀ y ∈ scope.names, y.2 = .free -> ∃ c, X.env.cells.lookup y.1 = some c := fun y hy e => I.ok.has y.1 (hfr y hy e)
  refine wpAny_comprehension_free (use := none) rfl hs (closureFor_cl hfc) hkind hnames (comp_core hi hcalm hix hcell hkind hfr hG hT hE I h (RR := fun acc C => compPost (model X.prog X.w) X.A X.xe none (EP X pins σ Q) acc C) ?_)
  intro D C oC m H' s' eC hn fC I' q
  refine ⟨m, hn, fun h' hs' => ⟨.ref D, H', ?_, rfl, q⟩⟩
  exact I'.unpinned.turned (t' := s'.toks) (fun b o hb e => (hs'.2 b hb).trans e) fC.1 fC.2.1 fC.2.2.2.1 fC.2.2.2.2.1 fC.2.2.2.2.2
theorem ps_setC {X : Cx} {i : Nat} {x : Str} {tg iter elt : Expr} {ifs : List Expr} {scope : Scope} {pos spos pos' : Pos} {wi : TI} {g : TG} {tc : TT} {te : TE} (Nc : List Str) (ix : List (Option Nat)) (hN : X.N.Nodup) (hxi : X.N[i]? = some x) (hx : Loc X.env.scope x)
    (hsw : swapsWith (.ListComp elt [⟨tg, iter, ifs, 0⟩] scope pos) (some (.Name x pos')) spos.line X.env = pure true) (hi : PI X tg iter wi) (hcalm : X.calm = true) (hix : IxOk X scope Nc ix)
    (hcell : ∀ y ∈ scope.names, y.2 ≠ .cell) (hkind : scope.kind = .function) (hfr : ∀ y ∈ scope.names, y.2 = .free -> X.env.kindOf y.1 = some .cell \/ X.env.kindOf y.1 = some .free)
    (hnames : ∀ x ∈ scope.names, x.2 = .local -> scope.names.lookup x.1 = some .local)
    (hG : ∀ C s H fp, PG (cxComp X scope C Nc s H fp) tg g) (hT : ∀ C s H fp, PF (cxComp X scope C Nc s H fp) ifs tc) (hE : ∀ C s H fp, PE (cxComp X scope C Nc s H fp) elt te)
    (hs : ∀ x, foldedSetIterable iter X.env x = pure x := by intro _; rfl) (hf : X.fn x = true \/ X.env.scope.names.lookup x = some .local := by first | exact .inl rfl | exact .inr rfl | assumption) :
    PS X (.Assign [.Name x pos'] (.ListComp elt [⟨tg, iter, ifs, 0⟩] scope pos) spos) (tAsg (tComp wi ix g tc te) (gName i)) := by
  intro pins s σ H E I h
  have hfc : ∀ y ∈ scope.names, y.2 = .free -> ∃ c, X.env.cells.lookup y.1 = some c := fun y hy e => I.ok.has y.1 (hfr y hy e)
  rw [exec_Assign_Name_used _ _ _ _ hsw]
  refine wpAny_bind (wpAny_standAt (wpAny_bind ?_))
  show wpAny _ X.A (do let _ <- comprehension (.ListComp elt [⟨tg, iter, ifs, 0⟩] scope pos) scope X.env _ (newList []) false (eval iter X.env) (some (assign (.Name x pos') X.env))) _ _ s
  refine wpAny_bind (wpAny_mono (wpAny_comprehension_free (use := some (assign (.Name x pos') X.env)) (Q := fun _ s' => SP X pins E .next s') rfl hs (closureFor_cl hfc) hkind hnames
    (comp_core hi hcalm hix hcell hkind hfr hG hT hE I h (RR := fun acc C => compPost (model X.prog X.w) X.A X.xe (some (assign (.Name x pos') X.env)) (fun _ s' => SP X pins E .next s') acc C) ?_)) (fun _ s' hq => wpAny_pure (wpAny_pure hq)) fun _ _ e => e)
  intro D C oC m H' s' eC hn fC I' q
  show wpAny _ X.A (assign (.Name x pos') X.env (.ref D)) _ _ _
  refine wpAny_assign_Name (store_ok I' hN hxi hx (show RelV (.ref D) _ from rfl) (fun s'' I'' => ?_) hf)
  have pC := I''.pin (C, oC) (List.mem_append_right _ (List.mem_append_right _ (List.mem_singleton.mpr rfl)))
  refine ⟨m, ?_, fun h' hs' => ?_⟩
  · obtain ⟨o, es, ep, e, r⟩ := hn
    rw [eC] at e; cases e
    exact ⟨oC, es, ep, pC.1, r⟩
  · refine ⟨_, H', I''.unpinned.turned (t' := s''.toks) (fun b o hb e => (hs'.2 b hb).trans e) fC.1 fC.2.1 fC.2.2.2.1 fC.2.2.2.2.1 fC.2.2.2.2.2, q⟩
end L2
namespace L2
open PySem PySem.Spec PyProof.Rows
noncomputable def S (l : List Nat) : Str := ⟨l.toArray⟩
theorem S_list (l : List Nat) : (S l).cps.toList = l := by simp [S]
theorem S_len (l : List Nat) : (S l).length = l.length := by simp [S, Str.length]
theorem S_size (l : List Nat) : (S l).cps.size = l.length := by simp [S]
theorem S_inj {a b : List Nat} (h : S a = S b) : a = b := by
  have := congrArg (fun x : Str => x.cps.toList) h
  simpa [S] using this
theorem S_of (x : Str) : x = S x.cps.toList := by cases x; simp [S]
theorem S_app (a b : List Nat) : S a ++ S b = S (a ++ b) := by
  apply Str.ext'
  apply Array.toList_inj.mp
  simp [S, Str.cps_append]
theorem dec_S {a b : List Nat} : decide (V.str (S a) = V.str (S b)) = decide (a = b) := by
  by_cases h : a = b
  · subst h; simp
  · rw [decide_eq_false h, decide_eq_false]
    intro q
    exact h (S_inj (V.str.inj q))
noncomputable def cut {α : Type} (xs : List α) (lo hi : Option Int) : List α := (xs.drop (HT.sIx xs.length 0 lo)).take (HT.sIx xs.length xs.length hi - HT.sIx xs.length 0 lo)
theorem cut_len {α : Type} (xs : List α) (lo hi : Option Int) : (cut xs lo hi).length <= xs.length := by
  unfold cut
  rw [List.length_take, List.length_drop]
  omega
theorem clip_sIx (n d : Nat) (v : Int) : max 0 (min (if v < 0 then v + (n : Int) else v) (n : Int)) = ((HT.sIx n d (some v) : Nat) : Int) := by
  show _ = (((if v < 0 then (v + (n : Int)).toNat else min v.toNat n) : Nat) : Int)
  by_cases hv : v < 0
  · simp only [if_pos hv]; omega
  · simp only [if_neg hv]; omega
theorem indices_sIx (lo hi : Option Int) (n : Nat) : Builtin.Str.strSliceIndices lo hi 1 n = (List.range (HT.sIx n n hi - HT.sIx n 0 lo)).map (HT.sIx n 0 lo + ·) := by
  have h1 : (1 : Int) > 0 := by decide
  rw [<- sliceRange_one]
  unfold Builtin.Str.strSliceIndices
  simp only [h1, if_true]
  congr 1
  · cases lo with
    | none => rfl
    | some v => exact clip_sIx n 0 v
  · cases hi with
    | none => rfl
    | some v => exact clip_sIx n n v
theorem slice_S (l : List Nat) (lo hi : Option Int) : Txt.slice (S l) lo hi = S (cut l lo hi) := by
  have hx : ((Builtin.Str.strSliceIndices lo hi 1 (S l).length).filterMap ((S l).cps[·]?)) = cut l lo hi := by
    rw [S_len, indices_sIx, pick_run, S_list]
    rfl
  have hlen : (Builtin.Str.strSliceIndices lo hi 1 (S l).length).length = HT.sIx l.length l.length hi - HT.sIx l.length 0 lo := by
    rw [S_len, indices_sIx, List.length_map, List.length_range]
  unfold Txt.slice
  by_cases hc : ((1 : Int) == 1 && (Builtin.Str.strSliceIndices lo hi 1 (S l).length).length == (S l).length) = true
  · rw [if_pos hc]
    rw [hlen, S_len] at hc
    have e : HT.sIx l.length l.length hi - HT.sIx l.length 0 lo = l.length := by simpa using hc
    have h2 := HT.sIx_le l.length l.length (Nat.le_refl _) hi
    have e0 : HT.sIx l.length 0 lo = 0 \/ l.length = 0 := by omega
    unfold cut
    rw [e]
    rcases e0 with z | z
    · rw [z]; simp
    · have : l = [] := List.eq_nil_of_length_eq_zero z
      subst this
      simp
  · rw [if_neg hc]
    rw [hx]
    rfl
section
variable {X : Cx}
theorem pe_S {x : Str} {j pos} (l : List Nat) (h : x = S l) : PE X (.Constant (.str x) j pos) (tC (.str (S l))) := by
  subst h
  exact pe_str
noncomputable def rAddS : R2 := fun x y H Q => ∃ a b, x = .str (S a) /\ y = .str (S b) /\ a.length + b.length <= sizeLine /\ Q (.str (S (a ++ b))) H
theorem op_addS : OpR X (binaryOp .Add) rAddS := by
  intro pins s σ H x y v u Q I rx ry h
  obtain ⟨a, b, rfl, rfl, hz, q⟩ := h
  exact op_add_str pins s σ H _ _ v u Q I rx ry ⟨S a, S b, rfl, rfl, by rw [S_len, S_len]; exact hz, by rw [S_app]; exact q⟩
noncomputable def rIxS' : R2 := fun x y H Q => ∃ l i c, x = .str (S l) /\ y = .int i /\ l.length <= sizeLine /\ atI l i = some c /\ Q (.str (S [c])) H
theorem ix_S : IxR X rIxS' := by
  intro value slice pins s σ H x y v u Q I rx ry h hs
  obtain ⟨l, i, c, rfl, rfl, hz, he, q⟩ := h
  exact ix_str value slice pins s σ H _ _ v u Q I rx ry ⟨S l, i, c, rfl, rfl, by rw [S_len]; exact hz, by rw [S_list]; exact he, q⟩ hs
noncomputable def rSlS : V -> Option Int -> Option Int -> Hp -> VK -> Prop := fun x lo hi H Q => ∃ l, x = .str (S l) /\ l.length <= sizeLine /\ Q (.str (S (cut l lo hi))) H
theorem sl_S : SlR X rSlS := by
  intro pins s σ H x v vl vu lo hi sl Q I rx hs pl pu h
  obtain ⟨l, rfl, hz, q⟩ := h
  obtain ⟨t, rfl⟩ := rx
  refine ⟨"str", _, F.slot_str_getitem.lookup, typeIs_str _ _ _, ?_⟩
  have key : ∀ (a b : Option (Int × Tok)), vl = partValue a -> vu = partValue b -> a.map (·.1) = lo -> b.map (·.1) = hi -> wpAny (model X.prog X.w) X.A (getItem (.str (S l) t) (.ref sl)) (EP X pins σ Q) X.xe s := by
    rintro a b rfl rfl rfl rfl
    obtain ⟨o, e, c, d⟩ := hs
    refine wpAny_getItem_str_slice (l := a) (u := b) (st := none) ⟨o, e, c, d⟩ rfl (post_val_or_str ⟨?_, fun t' k => ?_⟩)
    · exact Nat.le_trans (Txt.slice_le (S l) _ _) (by rw [S_len]; exact hz)
    · exact ⟨.str (S (cut l _ _)), H, I.tok _, ⟨t', congrArg (fun z => Value.str z t') (slice_S l _ _)⟩, q⟩
  cases pl with
  | none =>
    cases pu with
    | none => exact key none none rfl rfl rfl rfl
    | int i ti => exact key none (some (i, ti)) rfl rfl rfl rfl
  | int i ti =>
    cases pu with
    | none => exact key (some (i, ti)) none rfl rfl rfl rfl
    | int j tj => exact key (some (i, ti)) (some (j, tj)) rfl rfl rfl rfl
theorem call_lenS : CallR X (.builtin "len") (fun xs H Q => ∃ l, xs = [.str (S l)] /\ l.length <= sizeLine /\ Q (.int l.length) H) := by
  intro pins s σ H xs us Q I r h
  obtain ⟨l, rfl, hz, q⟩ := h
  exact call_len_str pins s σ H _ us Q I r ⟨S l, rfl, by rw [S_len]; exact hz, by rw [S_len]; exact q⟩
noncomputable def sgs (l : List Nat) : List V := l.map fun c => V.str (S [c])
theorem vals_signs {l : List Nat} : ∀ {acc : List Value} , acc.length = l.length -> (∀ j v, acc[j]? = some v -> SignAt (S l) j v) -> Vals (sgs l) acc := by
  induction l with
  | nil => intro acc h _; have : acc = [] := List.eq_nil_of_length_eq_zero h; subst this; exact .nil
  | cons c l ih =>
    intro acc h k
    cases acc with
    | nil => cases h
    | cons a acc =>
      refine .cons ?_ (ih (by simpa using h) fun j v e => ?_)
      · obtain ⟨c', u, e1, e2⟩ := k 0 a rfl
        have : c = c' := by simpa [S] using e1
        subst this
        exact ⟨u, e2⟩
      · obtain ⟨c', u, e1, e2⟩ := k (j + 1) v (by simpa using e)
        exact ⟨c', u, by simpa [S] using e1, e2⟩
theorem call_listS (hc : X.calm = true) : CallR X (.type "list") (fun xs H Q => ∃ l, xs = [.str (S l)] /\ l.length <= sizeLine /\ ∀ p, H p = none -> Q (.ref p) (upd H p (.lst (sgs l)))) := by
  intro pins s σ H xs us Q I r h
  obtain ⟨l, rfl, hz, q⟩ := h
  obtain ⟨u, rfl, t, rfl⟩ := vals1 r
  refine call_list_str (I.ok.hd hc) (S l) t (fun h' tk acc' c' hk e hacc => ?_) (by rw [S_size]; exact hz)
  obtain ⟨h1, h2⟩ := hacc
  rw [S_size] at h1
  refine ⟨.ref s.heap.objs.size, _, I.laid (t' := tk) (o := .lst (sgs l)) hk (Nat.le_refl _) ?_, rfl, q _ I.fresh⟩
  exact ⟨by unfold sgs; rw [List.length_map]; exact hz, acc'.toList, c', vals_signs (by simpa using h1) (fun j v e => h2 j v (by simpa using e)), by simpa using e⟩
noncomputable def rInS : R2 := fun x y H Q => ∃ c l, x = .str (S [c]) /\ y = .str (S l) /\ Q (.bl (decide (c ∈ l))) H
theorem op_inS : OpR X (compareOp .In) rInS := by
  intro pins s σ H x y v u Q I rx ry h
  obtain ⟨c, l, rfl, rfl, q⟩ := h
  refine op_in_str pins s σ H _ _ v u Q I rx ry ⟨S [c], S l, rfl, rfl, ?_⟩
  have e := StrLaws.found_one (S l) c
  rw [S_list] at e
  rw [show (S [c]) = (⟨#[c]⟩ : Str) from rfl, e]
  exact q
end
end L2
namespace L2
open PySem PySem.Spec PyProof.Rows
theorem occ_stays (s sub : Str) (hi : Nat) : ∀ (l : List Nat) (st : Array Nat × Nat), 1 <= st.fst.size -> (forIn l st (StrLaws.occBody s sub hi 1)).run.fst = st.fst
  | [], st, h => rfl
  | a :: l, st, h => by
    rw [List.forIn_cons]
    unfold StrLaws.occBody
    rw [if_neg (fun z => absurd z.1.1.1 (Nat.not_lt.mpr h))]
    exact occ_stays s sub hi l _ h
theorem occ_first (s sub : Str) (hi : Nat) : ∀ (l : List Nat) (free : Nat), (∀ i ∈ l, free <= i) ->
    (forIn l ((#[] : Array Nat), free) (StrLaws.occBody s sub hi 1)).run.fst.toList = (l.find? fun i => decide (i + sub.length <= hi) && Builtin.Str.subAt s sub i).toList
  | [], free, _ => rfl
  | a :: l, free, hf => by
    rw [List.forIn_cons, List.find?_cons]
    unfold StrLaws.occBody
    have ha : free <= a := hf a List.mem_cons_self
    by_cases hc : a + sub.length <= hi /\ Builtin.Str.subAt s sub a = true
    · rw [if_pos ⟨⟨⟨by simp, ha⟩, hc.1⟩, hc.2⟩]
      have : (decide (a + sub.length <= hi) && Builtin.Str.subAt s sub a) = true := by simp [hc]
      rw [this]
      show (forIn l (#[].push a, a + sub.length) (StrLaws.occBody s sub hi 1)).run.fst.toList = _
      rw [occ_stays s sub hi l _ (by simp)]
      rfl
    · rw [if_neg (fun z => hc ⟨z.1.2, z.2⟩)]
      have : (decide (a + sub.length <= hi) && Builtin.Str.subAt s sub a) = false := by
        cases h1 : decide (a + sub.length <= hi) with
        | false => rfl
        | true =>
          cases h2 : Builtin.Str.subAt s sub a with
          | false => rfl
          | true => exact absurd ⟨of_decide_eq_true h1, h2⟩ hc
      rw [this]
      exact occ_first s sub hi l free fun i hi' => hf i (List.mem_cons_of_mem _ hi')
theorem subAt_one (l : List Nat) (c i : Nat) : Builtin.Str.subAt (S l) (S [c]) i = (l[i]? == some c) := by
  unfold Builtin.Str.subAt
  rw [S_len]
  show ((S l).cps.extract i (i + 1) == #[c]) = _
  have e : ((S l).cps.extract i (i + 1)) = ((l.drop i).take 1).toArray := by
    apply Array.toList_inj.mp
    simp [S, List.take_drop]
  rw [e]
  by_cases h : i < l.length
  · have e2 : (l.drop i).take 1 = [l[i]] := by
      rw [List.drop_eq_getElem_cons h]; rfl
    rw [e2, List.getElem?_eq_getElem h]
    by_cases hc : l[i] = c
    · rw [hc]; simp
    · have h1 : ([l[i]].toArray == #[c]) = false := by
        rw [beq_eq_false_iff_ne]
        intro z
        apply hc
        have := congrArg Array.toList z
        simpa using this
      have h2 : (some l[i] == some c) = false := by simpa using hc
      rw [h1, h2]
  · have e2 : (l.drop i).take 1 = [] := by rw [List.drop_eq_nil_of_le (by omega)]; rfl
    rw [e2, List.getElem?_eq_none (by omega)]
    rfl
theorem find_idx (l : List Nat) (c : Nat) : ∀ (k n : Nat), k + n = l.length + 1 -> ((List.range' k n).find? fun i => decide (i + 1 <= l.length) && (l[i]? == some c)) = if c ∈ l.drop k then some (k + (l.drop k).idxOf c) else none
  | k, 0, h => by
    have : l.drop k = [] := List.drop_eq_nil_of_le (by omega)
    rw [this]; simp
  | k, n + 1, h => by
    rw [List.range'_succ, List.find?_cons]
    by_cases hk : k < l.length
    · have e : l.drop k = l[k] :: l.drop (k + 1) := List.drop_eq_getElem_cons hk
      rw [List.getElem?_eq_getElem hk, e]
      by_cases hc : l[k] = c
      · have : (decide (k + 1 <= l.length) && (some l[k] == some c)) = true := by simp [hc]; omega
        rw [this, if_pos (by simp [hc])]
        simp [hc]
      · have : (decide (k + 1 <= l.length) && (some l[k] == some c)) = false := by simp [hc]
        rw [this, find_idx l c (k + 1) n (by omega)]
        have hc' : ¬ c = l[k] := fun z => hc z.symm
        by_cases hm : c ∈ l.drop (k + 1)
        · rw [if_pos hm, if_pos (List.mem_cons_of_mem _ hm), List.idxOf_cons]
          have : (l[k] == c) = false := by simpa using hc
          rw [this]
          show some (k + 1 + List.idxOf c (List.drop (k + 1) l)) = some (k + (List.idxOf c (List.drop (k + 1) l) + 1))
          congr 1
          omega
        · rw [if_neg hm, if_neg (by intro z; rcases List.mem_cons.mp z with z | z; exact hc' z; exact hm z)]
    · have : l.drop k = [] := List.drop_eq_nil_of_le (by omega)
      have e1 : (decide (k + 1 <= l.length) && (l[k]? == some c)) = false := by
        rw [decide_eq_false (by omega)]; rfl
      have e2 : l.drop (k + 1) = [] := List.drop_eq_nil_of_le (by omega)
      rw [e1, find_idx l c (k + 1) n (by omega), this, e2]
      simp
theorem occ_S (l : List Nat) (c : Nat) : Builtin.Str.occurrences (S l) (S [c]) 0 (S l).length 1 = if c ∈ l then [l.idxOf c] else [] := by
  rw [StrLaws.occ_eq, occ_first _ _ _ _ 0 fun _ _ => Nat.zero_le _]
  have e : (fun i => decide (i + (S [c]).length <= (S l).length) && Builtin.Str.subAt (S l) (S [c]) i) = fun i => decide (i + 1 <= l.length) && (l[i]? == some c) := by
    funext i
    rw [subAt_one, S_len, S_len]
    rfl
  rw [e, S_len, Nat.sub_zero, find_idx l c 0 (l.length + 1) (by omega), List.drop_zero]
  by_cases h : c ∈ l
  · rw [if_pos h, if_pos h, Nat.zero_add]; rfl
  · rw [if_neg h, if_neg h]; rfl
section
variable {X : Cx}
noncomputable def rIndexS : V -> List V -> Hp -> VK -> Prop := fun x vs H Q => ∃ l c, x = .str (S l) /\ vs = [.str (S [c])] /\ c ∈ l /\ Q (.int (l.idxOf c : Nat)) H
theorem mt_indexS : MtR X "str.index" rIndexS := by
  intro pins s σ H x xs v us Q I rx rv h
  obtain ⟨l, c, rfl, rfl, hc, q⟩ := h
  obtain ⟨t, rfl⟩ := rx
  obtain ⟨u, rfl, t', rfl⟩ := vals1 rv
  exact SC.index (i := l.idxOf c) (rest := []) (by rw [occ_S, if_pos hc]) ⟨.int (l.idxOf c : Nat), H, I.tok _, ⟨_, rfl⟩, q⟩
noncomputable def rLowS (f : Nat -> Bool) : V -> List V -> Hp -> VK -> Prop := fun x vs H Q => ∃ c, x = .str (S [c]) /\ vs = [] /\ c < 128 /\ Q (.bl (f c)) H
noncomputable def rUpS (f : Nat -> Nat) : V -> List V -> Hp -> VK -> Prop := fun x vs H Q => ∃ c, x = .str (S [c]) /\ vs = [] /\ c < 128 /\ Q (.str (S [f c])) H
noncomputable def isLow (c : Nat) : Bool := decide (97 <= c) && decide (c <= 122)
theorem low_all : ∀ c, c < 128 -> Txt.islower ⟨#[c]⟩ = isLow c := by decide +kernel
theorem mt_islower : MtR X "str.islower" (rLowS isLow) := by
  intro pins s σ H x xs v us Q I rx rv h
  obtain ⟨c, rfl, rfl, hc, q⟩ := h
  obtain ⟨t, rfl⟩ := rx
  have e : us = [] := by cases rv; rfl
  subst e
  exact SC.islower ⟨.bl (isLow c), H, I, congrArg Value.bool (low_all c hc), q⟩
theorem upper_one {c : Nat} (hc : c < 128) : Txt.upper (S [c]) = S [up1 c] := by
  rw [upper_ascii (by intro d hd; rw [S_list] at hd; simp at hd; omega)]
  simp [S]
theorem lower_one {c : Nat} (hc : c < 128) : Txt.lower (S [c]) = S [lo1 c] := by
  rw [lower_ascii (by intro d hd; rw [S_list] at hd; simp at hd; omega)]
  simp [S]
theorem fits1 (c : Nat) : Builtin.Str.tooLong (S [c]).length = false := by
  rw [S_len]
  show Builtin.Str.tooLong 1 = false
  decide
theorem mt_upper : MtR X "str.upper" (rUpS up1) := by
  intro pins s σ H x xs v us Q I rx rv h
  obtain ⟨c, rfl, rfl, hc, q⟩ := h
  obtain ⟨t, rfl⟩ := rx
  have e : us = [] := by cases rv; rfl
  subst e
  exact SC.upper (by rw [upper_one hc]; exact fits1 _) ⟨.str (S [up1 c]), H, I.tok _, ⟨_, congrArg (fun z => Value.str z _) (upper_one hc)⟩, q⟩
theorem mt_lower : MtR X "str.lower" (rUpS lo1) := by
  intro pins s σ H x xs v us Q I rx rv h
  obtain ⟨c, rfl, rfl, hc, q⟩ := h
  obtain ⟨t, rfl⟩ := rx
  have e : us = [] := by cases rv; rfl
  subst e
  exact SC.lower (by rw [lower_one hc]; exact fits1 _) ⟨.str (S [lo1 c]), H, I.tok _, ⟨_, congrArg (fun z => Value.str z _) (lower_one hc)⟩, q⟩
theorem glue_S : ∀ (ls : List (List Nat)) (a : Array Nat), (ls.map S).foldl (fun acc p => acc ++ (S []).cps ++ p.cps) a = a ++ ls.flatten.toArray
  | [], a => by simp
  | l :: ls, a => by
    rw [List.map_cons, List.foldl_cons, glue_S ls]
    simp [S]
theorem join_S (ls : List (List Nat)) : Txt.join (S []) (ls.map S) = S ls.flatten := by
  unfold Txt.join Builtin.Str.glued
  cases ls with
  | nil => rfl
  | cons l ls =>
    show Str.mk ((List.map S ls).foldl (fun acc p => acc ++ (S []).cps ++ p.cps) (S l).cps) = _
    rw [glue_S]
    simp [S]
theorem strsAre_of : ∀ {ls : List (List Nat)} {us : List Value}, Vals (ls.map fun l => V.str (S l)) us -> StrsAre us (ls.map S)
  | [], us, r => by cases r; exact .nil
  | l :: ls, us, r => by
    cases r with
    | cons r1 r2 =>
      obtain ⟨t, rfl⟩ := r1
      exact .cons _ t (strsAre_of r2)
noncomputable def rJoinS (K : PySem.W.Frag) : V -> List V -> Hp -> VK -> Prop := fun x vs H Q => ∃ (p : Addr) (ls : List (List Nat)), x = .str (S []) /\ vs = [.ref p] /\ SqL K H p (ls.map fun l => V.str (S l)) /\ (ls.map List.length).sum <= 16777216 /\ Q (.str (S ls.flatten)) H
theorem mt_joinS : MtR X "str.join" (rJoinS X.K) := by
  intro pins s σ H x xs v us Q I rx rv h
  obtain ⟨p, ls, rfl, rfl, hq, hz, q⟩ := h
  obtain ⟨t, rfl⟩ := rx
  obtain ⟨u, rfl, ru⟩ := vals1 rv
  cases ru
  obtain ⟨its, r, pl, _⟩ := I.list hq
  have e : (S []).length = 0 := rfl
  refine join_list pl.isList (by simpa using strsAre_of r) ?_ fun t' k => ?_
  · rw [e, Nat.mul_zero, Nat.add_zero, List.map_map]
    have e2 : (Str.length ∘ S) = List.length := by funext l; exact S_len l
    have e3 : ((fun x : Str => x.length) ∘ S) = List.length := by funext l; exact S_len l
    first | (rw [e2]; exact hz) | (rw [e3]; exact hz)
  · exact ⟨.str (S ls.flatten), H, I.tok _, ⟨t', congrArg (fun z => Value.str z t') (join_S ls)⟩, q⟩
theorem call_allB (hc : X.calm = true) : CallR X (.builtin "all") (fun xs H Q => ∃ (p : Addr) (bs : List Bool), xs = [.ref p] /\ SqL X.K H p (bs.map V.bl) /\ Q (.bl (bs.all id)) H) := by
  intro pins s σ H xs us Q I r h
  obtain ⟨p, bs, rfl, hq, q⟩ := h
  obtain ⟨u, rfl, ru⟩ := vals1 r
  cases ru
  obtain ⟨its, rv, pl, hz⟩ := I.list hq
  have hlen : its.length = bs.length := by rw [<- rv.length, List.length_map]
  have hp : p < s.heap.objs.size := by
    obtain ⟨o, n, e, _⟩ := pl
    exact Heap.lt_size e
  refine call_all_walk (wpAny_pyIter_list pl.isList ?_)
  refine ⟨s.heap.objs.size, _, _, _, _, _, fun i => (bs[i]?).getD true, rfl, Walks.list (A := X.A.in1) (I.ok.hd hc) s.heap.objs.size p (Nat.ne_of_lt hp) its.toArray, ⟨⟨_, Heap.get?_push_size _ rfl, rfl, rfl⟩, ?_⟩, fun i v s' Q' E' hP hQ => ?_, fun h' tk hk => ?_⟩
  · obtain ⟨o, ho, hr⟩ := pl.isList
    exact ⟨o, Heap.get?_push_of_some _ ho, hr⟩
  · have hP' : its[i]? = some v := by simpa using hP
    have hi : i < bs.length := by rw [<- hlen]; exact (List.getElem?_eq_some_iff.mp hP').1
    have hb : (bs.map V.bl)[i]? = some (V.bl bs[i]) := by rw [List.getElem?_map, List.getElem?_eq_getElem hi]; rfl
    obtain ⟨u, hu, ru⟩ := rv.get hb
    rw [hP'] at hu; cases hu
    cases (show v = Value.bool bs[i] from ru)
    have e : (bs[i]?).getD true = bs[i] := by rw [List.getElem?_eq_getElem hi]; rfl
    have hQ' : Q' ((bs[i]?).getD true) s' := hQ
    rw [e] at hQ'
    exact wpAny_pure hQ'
  · have e : ((List.range its.toArray.size).all fun i => (bs[i]?).getD true) = bs.all id := by
      rw [List.size_toArray, hlen]
      clear hq rv hlen q
      rw [Bool.eq_iff_iff, List.all_eq_true, List.all_eq_true]
      constructor
      · intro h b hb
        obtain ⟨i, hi, e⟩ := List.getElem_of_mem hb
        have := h i (List.mem_range.mpr hi)
        rw [List.getElem?_eq_getElem hi, e] at this
        exact this
      · intro h i hi
        have hi' := List.mem_range.mp hi
        rw [List.getElem?_eq_getElem hi']
        exact h _ (List.getElem_mem hi')
    have I1 : Inv X pins σ H { s with heap := h', toks := tk } := by
      have I0 : Inv X pins σ H { s with heap := s.heap.push { cls := .type "list_iterator", data := .fields #[.ref p, .int 0 0] } } := I.kept (t' := s.toks) fun b o e => Heap.get?_push_of_some _ e
      have f := I.fpOk (H' := H) (b := s.heap.objs.size) (Nat.le_refl _) I.fresh
      have J := I0.turned (h' := h') (t' := tk) (it := s.heap.objs.size) (fun b o hb e => hk b o (by simpa using hb) e) f.1 f.2.1 f.2.2.2.1 f.2.2.2.2.1 f.2.2.2.2.2
      exact J
    exact ⟨.bl (bs.all id), H, I1, by rw [e]; rfl, q⟩
end
end L2
namespace L2.F2
open PySem PySem.Spec PyProof.Rows
theorem owner_rev : Manifest.owners.lookup (String.ofList ['d', 'e', 's', 'r', 'e', 'v', 'e', 'r'].reverse) = some Manifest.sig_reversed := by kernel_rfl
theorem slot_rev_next : Slot "reversed" "__next__" "reversed.__next__" :=
  .of (owner := "reversed") (n := "__next__") (by rw [typeLookup_type, builtinLookup_eq_fast]; kernel_rfl) (by decide +kernel) (by decide +kernel) (by decide +kernel)
    (by first | exact .inl (by decide +kernel) | exact .inr (by decide +kernel)) (by rw [isSubtype_type]; kernel_rfl)
theorem entry_rev_next : entryFor table "reversed.__next__" = some Builtin.«reversed.__next__» := entryFor_of_tree (by kernel_rfl)
theorem args_rev_next_1 (a : Value) : argsOk "reversed.__next__" ⟨[a], []⟩ := by
  unfold argsOk; rw [signature?_of (id := "reversed.__next__") (n := ['_', '_', 't', 'x', 'e', 'n', '_', '_']) (o := ['d', 'e', 's', 'r', 'e', 'v', 'e', 'r']) (by kernel_rfl) owner_rev]; kernel_rfl
theorem slot_rev_iter : Slot "reversed" "__iter__" "reversed.__iter__" :=
  .of (owner := "reversed") (n := "__iter__") (by rw [typeLookup_type, builtinLookup_eq_fast]; kernel_rfl) (by decide +kernel) (by decide +kernel) (by decide +kernel)
    (by first | exact .inl (by decide +kernel) | exact .inr (by decide +kernel)) (by rw [isSubtype_type]; kernel_rfl)
theorem args_rev_iter_1 (a : Value) : argsOk "reversed.__iter__" ⟨[a], []⟩ := by
  unfold argsOk; rw [signature?_of (id := "reversed.__iter__") (n := ['_', '_', 'r', 'e', 't', 'i', '_', '_']) (o := ['d', 'e', 's', 'r', 'e', 'v', 'e', 'r']) (by kernel_rfl) owner_rev]; kernel_rfl
theorem entry_rev_iter : entryFor table "reversed.__iter__" = some Builtin.«dict_keyiterator.__iter__» :=
  entryFor_alias (id' := "dict_keyiterator.__iter__") (by kernel_rfl) (by first | rfl | decide +kernel | (unfold String.splitOn; simp +decide [String.splitOnAux])) (by decide +kernel) (by kernel_rfl)
theorem slot_rev_init : Slot "reversed" "__init__" "object.__init__" :=
  .of (owner := "object") (n := "__init__") (by rw [typeLookup_type, builtinLookup_eq_fast]; kernel_rfl) (by decide +kernel) (by decide +kernel) (by decide +kernel)
    (by first | exact .inl (by decide +kernel) | exact .inr (by decide +kernel)) (by rw [isSubtype_type]; kernel_rfl)
theorem called_rev : TypeCalled "reversed" "reversed.__new__" "object.__init__" :=
  ⟨by decide +kernel, by decide +kernel, ⟨_, _, F.mro_reversed⟩, F.made_reversed, by decide +kernel, by rw [isSubtype_type]; kernel_rfl, slot_rev_init⟩
theorem str_no_rev : typeLookup (.type "str") "__reversed__" = pure none := by rw [typeLookup_type, builtinLookup_eq_fast]; kernel_rfl
end L2.F2
namespace L2
open PySem PySem.Spec PyProof.Rows
theorem meets_rev_newS (x : Str) (t : Tok) (hz : x.length <= sizeLine) : Meets (Builtin.«reversed.__new__» ⟨[.type "reversed", .str x t], []⟩) (fun _ R s => ∀ tk, R (.ok (.ret (.ref s.heap.objs.size))) { s with heap := s.heap.push { cls := .type "reversed", data := .fields #[.str x t, rawInt ((x.length : Int) - 1)] }, toks := tk }) := by
  refine Meets.of_wp fun prog w A R s h => ?_
  unfold Builtin.«reversed.__new__»
  refine wpAny_bind (wpAny_of_eq (newClass_reversed _) ?_)
  try dsimp only
  refine wpAny_bind (wpAny_of_eq (a := ()) (by first | rfl | kernel_rfl) ?_)
  refine wpAny_bind (wpAny_of_eq (a := ()) (by first | rfl | kernel_rfl) ?_)
  try dsimp only
  refine wpAny_bind (wpAny_specialOf (typeIs_str s x t) F2.str_no_rev ?_)
  try dsimp only
  refine wpAny_bind (wpAny_of_eq (a := true) (by first | rfl | kernel_rfl) ?_)
  rw [if_neg (by decide)]
  have hn := line63
  refine wpAny_bind (len_str (by omega) ?_)
  refine wpAny_bind (wpAny_of_eq (a := some (x.length : Int)) (by first | rfl | kernel_rfl) ?_)
  show wpAny _ _ (Builtin.SmallTypes.newRecord (Value.type "reversed") [Value.str x t, rawInt ((x.length : Int) - 1)] >>= _) _ _ _
  refine wpAny_bind ?_
  unfold Builtin.SmallTypes.newRecord
  refine wpAny_newObj_type ?_ (by size_fits)
  exact wpAny_pure ⟨_, rfl, h _⟩
section
variable {prog : Program} {w : World} {A : Around} {E : Value -> Shared -> Prop} {s : Shared}
theorem call_reversedS {x : Str} {t : Tok} {Q : Value -> Shared -> Prop} (hz : x.length <= sizeLine) (h : ∀ tk, Q (.ref s.heap.objs.size) { s with heap := s.heap.push { cls := .type "reversed", data := .fields #[.str x t, rawInt ((x.length : Int) - 1)] }, toks := tk }) :
    wpAny (model prog w) A (call (.type "reversed") [.str x t]) Q E s :=
  callType_new F2.called_rev (by decide +kernel) (F.typeCall_reversed_1 _) (F.newCall_reversed_1 _) (fun obj => by unfold argsOk; kernel_rfl) F.entry_reversed_new (meets_rev_newS x t hz)
    fun tk => ⟨⟨_, Heap.get?_push_size _ rfl, rfl⟩, h tk⟩
noncomputable def IsRevS (h : Heap) (it : Addr) (x : Str) (t : Tok) (i : Int) : Prop := ∃ o, h.get? it = some o /\ o.cls = .type "reversed" /\ o.data = .fields #[.str x t, rawInt i]
theorem IsRevS.typeIs {it : Addr} {x : Str} {t : Tok} {i : Int} (h : IsRevS s.heap it x t i) : s.TypeIs (.ref it) "reversed" := let ⟨o, ho, hc, _⟩ := h; ⟨o, ho, hc⟩
theorem pyIter_rev {it : Addr} {x : Str} {t : Tok} {i : Int} {Q : Value -> Shared -> Prop} (hit : IsRevS s.heap it x t i) (h : Q (.ref it) s) : wpAny (model prog w) A (pyIter (.ref it)) Q E s := by
  refine wpAny_pyIter_slot hit.typeIs F2.slot_rev_iter (wpAny_call_entry F2.slot_rev_iter hit.typeIs F2.entry_rev_iter ?_ (F2.args_rev_iter_1 _))
  show wpAny _ _ (ret (.ref it)) _ _ s
  exact wpAny_pure ⟨_, rfl, "reversed", _, hit.typeIs, F2.slot_rev_next.lookup, h⟩
theorem pyNext_rev_item {it : Addr} {x : Str} {t : Tok} {i c : Nat} {Q : Option Value -> Shared -> Prop} (hit : IsRevS s.heap it x t (i : Int)) (hx : x.cps[i]? = some c) (hz : x.length <= sizeLine)
    (hQ : ∀ h' tk u, IsRevS h' it x t ((i : Int) - 1) -> Heap.SameBut it s.heap h' -> Q (some (.str ⟨#[c]⟩ u)) { s with heap := h', toks := tk }) : wpAny (model prog w) A (pyNext (.ref it)) Q E s := by
  obtain ⟨o, ho, hc, hd⟩ := id hit
  have hn := line63
  have hi : i < x.length := (Array.getElem?_eq_some_iff.mp hx).1
  unfold pyNext
  refine wpAny_bind (wpAny_attempt (wpAny_callSpecial?_slot (name := Str.ofString "__next__") hit.typeIs F2.slot_rev_next
    (wpAny_call_entry F2.slot_rev_next hit.typeIs F2.entry_rev_next ?_ (F2.args_rev_next_1 _))))
  unfold Builtin.«reversed.__next__»
  refine wpAny_bind (wpAny_of_eq (a := (Value.ref it, [])) rfl ?_)
  try dsimp only
  refine wpAny_bind (wpAny_field ho hd (x := .str x t) rfl ?_)
  refine wpAny_bind (wpAny_field ho hd (x := rawInt (i : Int)) rfl ?_)
  show wpAny _ _ (if (i : Int) < 0 then _ else _) _ _ s
  rw [if_neg (by omega)]
  refine wpAny_bind (wpAny_specialOf (typeIs_str s x t) F.slot_str_getitem.lookup ?_)
  show wpAny _ _ (if (some (Value.builtin _)).isNone = true then _ else _) _ _ s
  rw [if_neg (by decide)]
  refine wpAny_bind (wpAny_mkInt ?_)
  refine wpAny_bind (wpAny_attempt (getItem_str (c := c) (by
    have e1 : decide ((i : Int) < -(2 ^ 63 : Int)) = false := decide_eq_false (by omega)
    have e2 : decide ((i : Int) ≥ 2 ^ 63) = false := decide_eq_false (by omega)
    rw [e1, e2, Bool.or_false]) (by rw [seqIndex_of (by omega) (by omega), Int.toNat_natCast]; exact hx) ?_))
  show wpAny _ _ (field (Value.ref it) 1 >>= _) _ _ _
  refine wpAny_bind (wpAny_field ho hd (x := rawInt (i : Int)) rfl ?_)
  show wpAny _ _ (setField (Value.ref it) 1 (rawInt ((i : Int) - 1)) >>= _) _ _ _
  refine wpAny_bind (wpAny_setField ho hd (by simp) ?_)
  refine wpAny_pure ⟨_, rfl, wpAny_pure (hQ _ _ _ ?_ (Heap.SameBut.update ..))⟩
  exact ⟨_, Heap.get?_update_self _ ho (Obj.isFreed_of_fields (Obj.data_mapFields hd _)), (Obj.cls_mapFields ..).trans hc, by
    rw [Obj.data_mapFields hd]; simp⟩
theorem pyNext_rev_end {it : Addr} {x : Str} {t : Tok} {Q : Option Value -> Shared -> Prop} (hh : A.handled = none) (hit : IsRevS s.heap it x t (-1))
    (hQ : ∀ h', Heap.ExtBut it s.heap h' -> Q none { s with heap := h' }) : wpAny (model prog w) A (pyNext (.ref it)) Q E s := by
  obtain ⟨o, ho, hc, hd⟩ := id hit
  unfold pyNext
  refine wpAny_bind (wpAny_attempt (wpAny_callSpecial?_slot (name := Str.ofString "__next__") hit.typeIs F2.slot_rev_next
    (wpAny_call_entry F2.slot_rev_next hit.typeIs F2.entry_rev_next ?_ (F2.args_rev_next_1 _))))
  unfold Builtin.«reversed.__next__»
  refine wpAny_bind (wpAny_of_eq (a := (Value.ref it, [])) rfl ?_)
  try dsimp only
  refine wpAny_bind (wpAny_field ho hd (x := .str x t) rfl ?_)
  refine wpAny_bind (wpAny_field ho hd (x := rawInt (-1)) rfl ?_)
  show wpAny _ _ (if (-1 : Int) < 0 then _ else _) _ _ s
  rw [if_pos (by decide)]
  refine wpAny_bind (wpAny_rule ?_)
  refine wpAny_bind ?_
  show wpAny _ _ (setField (Value.ref it) 1 (rawInt (-1)) >>= fun _ => setField (Value.ref it) 0 .none) _ _ _
  refine wpAny_bind (wpAny_setField ho hd (by simp) ?_)
  refine wpAny_setField (Heap.get?_update_self _ ho (Obj.isFreed_of_fields (Obj.data_mapFields hd _))) (Obj.data_mapFields hd _) (by simp) ?_
  first
  | show wpAny _ _ (newExc (.type "StopIteration") [] >>= _) _ _ _
  | (refine wpAny_bind ?_; show wpAny _ _ (newExc (.type "StopIteration") [] >>= _) _ _ _)
  refine wpAny_bind ?_
  simp only [newExc, newTuple]
  refine wpAny_bind (wpAny_newObj_type ?_ (by size_fits))
  refine wpAny_bind (m := firstArgMember _ _) (wpAny_of_eq (a := Value.none) (by first | rfl | (simp only [firstArgMember]; rfl)) ?_)
  refine wpAny_newObj_type ?_ (by size_fits)
  simp only [raiseNew]
  refine wpAny_bind (wpAny_handled ?_)
  first | rw [show A.in1.handled = none from hh] | rw [hh]
  refine wpAny_bind (wpAny_pure (wpAny_throw ?_))
  refine wpAny_bind (wpAny_isInstance (T := "StopIteration") (b := true) ⟨_, Heap.get?_push_size _ rfl, rfl⟩ isSubtype_stop ?_)
  refine wpAny_pure (hQ _ fun b ob hb e => ?_)
  refine Heap.get?_push_of_some _ (Heap.get?_push_of_some _ ?_)
  exact (Heap.get?_update_other _ _ (Ne.symm hb)).trans ((Heap.get?_update_other _ _ (Ne.symm hb)).trans e)
end
noncomputable def Itx (xs : List V) : It := ⟨fun i _ => i < xs.length, fun i H x H' => H' = H /\ xs[i]? = some x, fun i _ => xs.length <= i⟩
theorem sgs_get {l : List Nat} {i : Nat} {x : V} (h : (sgs l)[i]? = some x) : ∃ c, l[i]? = some c /\ x = .str (S [c]) := by
  unfold sgs at h
  rw [List.getElem?_map] at h
  cases e : l[i]? with
  | none => rw [e] at h; cases h
  | some c => rw [e] at h; cases h; exact ⟨c, rfl, rfl⟩
theorem sgs_len (l : List Nat) : (sgs l).length = l.length := by unfold sgs; rw [List.length_map]
theorem turn_str {P : Program} {w : World} {K : PySem.W.Frag} {tg : Expr} (it : Addr) (l : List Nat) (t : Tok) : Turn P w K tg (Itx (sgs l)) [it] it (fun i h => h.IsStrIter it (strIterType (S l)) (S l) t i) where
  mem := by simp
  obj := fun i h st b hb => by
    have e : b = it := by simpa using hb
    subst e
    obtain ⟨o, e, c, d⟩ := st
    exact ⟨o, e, fun v z => by rw [d] at z; cases z⟩
  keep := fun i h h' st k => let ⟨o, e, r⟩ := st; ⟨o, k it (by simp) o e, r⟩
  item := by
    intro X hP hw hK hc i pins s σ H E I hf st hg
    subst hP hw hK
    have hg' : i < l.length := by have : i < (sgs l).length := hg; rwa [sgs_len] at this
    obtain ⟨f0, f1, f2, f3, f4, f5⟩ := hf it (by simp)
    have fin : ∀ (v : Value) (h' : Heap) (tk : Nat), SignAt (S l) i v -> h'.IsStrIter it (strIterType (S l)) (S l) t (i + 1) -> (∀ b o, b ∉ [it] -> s.heap.get? b = some o -> h'.get? b = some o) ->
        ∃ u, some v = some u /\ wpAny (model X.prog X.w) X.A (letOwnedTupleGo tg (.ref it) u) (fun _ s2 => ∃ x H', Inv X pins σ H' s2 /\ RelV x u /\ (Itx (sgs l)).yld i H x H' /\ s2.heap.IsStrIter it (strIterType (S l)) (S l) t (i + 1) /\ ∀ b ∈ [it], H' b = none) E { s with heap := h', toks := tk } := by
      intro v h' tk hv st' kk
      obtain ⟨c, u, e1, e2⟩ := hv
      subst e2
      have I1 : Inv X pins σ H { s with heap := h', toks := tk } := I.turned (fun b o hb e => kk b o (by simpa using hb) e) f0 f1 f3 f4 f5
      obtain ⟨o, e, cc, d⟩ := id st'
      refine ⟨_, rfl, go_of (s := { s with heap := h', toks := tk }) e cc d (by unfold strIterType; split <;> decide) ⟨.str (S [c]), H, I1, ⟨u, rfl⟩, ⟨rfl, ?_⟩, st', fun b hb => (hf b hb).1⟩⟩
      unfold sgs
      rw [List.getElem?_map]
      have e1' : l[i]? = some c := by simpa [S] using e1
      rw [e1']
      rfl
    have hsz : i < (S l).cps.size := by rw [S_size]; exact hg'
    by_cases ha : (S l).cps.all (· < 128) = true
    · have et : strIterType (S l) = "str_ascii_iterator" := by unfold strIterType; rw [if_pos ha]
      rw [et] at st
      exact (Walks.strAscii (prog := X.prog) (w := X.w) (I.ok.hd hc) it (S l) t).item i s _ _ hsz st fun v h' tk hv st' kk => fin v h' tk hv (by rw [et]; exact st') kk
    · have et : strIterType (S l) = "str_iterator" := by unfold strIterType; rw [if_neg ha]
      rw [et] at st
      exact (Walks.strWide (prog := X.prog) (w := X.w) (I.ok.hd hc) it (S l) t).item i s _ _ hsz st fun v h' tk hv st' kk => fin v h' tk hv (by rw [et]; exact st') kk
  done := by
    intro X hP hw hK hc i pins s σ H E I hf st hg
    subst hP hw hK
    obtain ⟨f0, f1, f2, f3, f4, f5⟩ := hf it (by simp)
    have hg' : l.length <= i := by have : (sgs l).length <= i := hg; rwa [sgs_len] at this
    have hx : (S l).cps[i]? = none := by rw [Array.getElem?_eq_none_iff, S_size]; exact hg'
    by_cases ha : (S l).cps.all (· < 128) = true
    · have et : strIterType (S l) = "str_ascii_iterator" := by unfold strIterType; rw [if_pos ha]
      rw [et] at st
      exact wpAny_pyNext_ascii_end (I.ok.hd hc) st hx fun h' eb => ⟨rfl, I.turned (t' := s.toks) (fun b o hb e => eb b o hb e) f0 f1 f3 f4 f5⟩
    · have et : strIterType (S l) = "str_iterator" := by unfold strIterType; rw [if_neg ha]
      rw [et] at st
      exact wpAny_pyNext_wide_end (I.ok.hd hc) st hx fun h' eb => ⟨rfl, I.turned (t' := s.toks) (fun b o hb e => eb b o hb e) f0 f1 f3 f4 f5⟩
  self := fun _ _ s _ _ st h => by
    by_cases ha : (S l).cps.all (· < 128) = true
    · have et : strIterType (S l) = "str_ascii_iterator" := by unfold strIterType; rw [if_pos ha]
      rw [et] at st
      exact wpAny_pyIter_striter_ascii st h
    · have et : strIterType (S l) = "str_iterator" := by unfold strIterType; rw [if_neg ha]
      rw [et] at st
      exact wpAny_pyIter_striter_wide st h
theorem turn_rev {P : Program} {w : World} {K : PySem.W.Frag} {tg : Expr} (it : Addr) (l : List Nat) (t : Tok) (hz : l.length <= sizeLine) : Turn P w K tg (Itx (sgs l).reverse) [it] it (fun i h => i <= l.length /\ IsRevS h it (S l) t ((l.length : Int) - 1 - (i : Int))) where
  mem := by simp
  obj := fun i h st b hb => by
    have e : b = it := by simpa using hb
    subst e
    obtain ⟨_, o, e, c, d⟩ := st
    exact ⟨o, e, fun v z => by rw [d] at z; cases z⟩
  keep := fun i h h' st k => let ⟨q, o, e, r⟩ := st; ⟨q, o, k it (by simp) o e, r⟩
  item := by
    intro X hP hw hK hc i pins s σ H E I hf st hg
    subst hP hw hK
    have hg' : i < l.length := by have : i < (sgs l).reverse.length := hg; rwa [List.length_reverse, sgs_len] at this
    obtain ⟨f0, f1, f2, f3, f4, f5⟩ := hf it (by simp)
    obtain ⟨_, st⟩ := st
    have e : (l.length : Int) - 1 - (i : Int) = ((l.length - 1 - i : Nat) : Int) := by omega
    rw [e] at st
    have hlt : l.length - 1 - i < l.length := by omega
    refine pyNext_rev_item (c := l[l.length - 1 - i]) st (by simp [S, hlt]) (by rw [S_len]; exact hz) fun h' tk u st' sb => ?_
    have I1 : Inv X pins σ H { s with heap := h', toks := tk } := I.turned (fun b o hb e => (sb.2 b hb).trans e) f0 f1 f3 f4 f5
    obtain ⟨o, e1, cc, d⟩ := id st'
    refine ⟨_, rfl, go_of (s := { s with heap := h', toks := tk }) e1 cc d (by decide) ⟨.str (S [l[l.length - 1 - i]]), H, I1, ⟨u, rfl⟩, ⟨rfl, ?_⟩, ⟨hg', ?_⟩, fun b hb => (hf b hb).1⟩⟩
    · rw [List.getElem?_reverse (by rw [sgs_len]; exact hg'), sgs_len]
      unfold sgs
      rw [List.getElem?_map, List.getElem?_eq_getElem hlt]
      rfl
    · have e2 : (l.length : Int) - 1 - ((i + 1 : Nat) : Int) = ((l.length - 1 - i : Nat) : Int) - 1 := by omega
      rw [e2]
      exact st'
  done := by
    intro X hP hw hK hc i pins s σ H E I hf st hg
    subst hP hw hK
    obtain ⟨f0, f1, f2, f3, f4, f5⟩ := hf it (by simp)
    have hg' : l.length <= i := by have : (sgs l).reverse.length <= i := hg; rwa [List.length_reverse, sgs_len] at this
    obtain ⟨hi, st⟩ := st
    have e : (l.length : Int) - 1 - (i : Int) = -1 := by omega
    rw [e] at st
    exact pyNext_rev_end (I.ok.hd hc) st fun h' eb => ⟨rfl, I.turned (t' := s.toks) (fun b o hb e => eb b o hb e) f0 f1 f3 f4 f5⟩
  self := fun _ _ _ _ _ st h => pyIter_rev st.2 h
section
variable {X : Cx} {tg : Expr}
noncomputable def iStr (tl : TE) : TI := fun σ H R => tl σ H fun x H1 => ∃ l, x = .str (S l) /\ R (Itx (sgs l)) H1
theorem pi_str {l : Expr} {tl : TE} (hl : PE X l tl) : PI X tg l (iStr tl) := by
  intro pins s σ H R I h
  refine thn (hl pins s σ H _ I h) fun v s1 ⟨x, H1, I1, r1, q1⟩ => ?_
  obtain ⟨l, rfl, q⟩ := q1
  obtain ⟨t, rfl⟩ := r1
  refine wpAny_pyIter_strU ?_
  refine ⟨s1.heap.objs.size, [s1.heap.objs.size], _, _, H1, rfl, I1.kept (t' := s1.toks) fun b o e => Heap.get?_push_of_some _ e, turn_str _ l t, ⟨_, Heap.get?_push_size _ rfl, rfl, rfl⟩, fun b hb => ?_, q⟩
  have e : b = s1.heap.objs.size := by simpa using hb
  subst e
  exact I1.fpOk (Nat.le_refl _) (I1.hok.fresh (Nat.le_refl _))
noncomputable def iRev (ta : TA) : TI := fun σ H R => ta σ H fun vs H1 => ∃ l, vs = [.str (S l)] /\ l.length <= sizeLine /\ R (Itx (sgs l).reverse) H1
theorem pi_rev {a : Expr} {ta : TA} {p pos : Pos} (hg : Gl X "reversed") (hm : X.mg "reversed" = none) (ha : PA X [a] ta) (hs : starEach [a] X.env = [(false, eval a X.env)] := by rfl) : PI X tg (.Call (.Name "reversed" p) [a] [] pos) (iRev ta) := by
  intro pins s σ H R I h
  refine Call_ (ld_blt I hg hm boot_reversed (PyProof.Rows.callWith_type1 (thn (ha pos pins s σ H _ I h) fun us s1 ⟨vs, H1, I1, r1, q1⟩ => ?_) hs rfl))
  obtain ⟨l, rfl, hz, q⟩ := q1
  obtain ⟨u, rfl, t, rfl⟩ := vals1 r1
  refine call_reversedS (by rw [S_len]; exact hz) fun tk => ?_
  have hit : IsRevS (s1.heap.push { cls := .type "reversed", data := .fields #[.str (S l) t, rawInt (((S l).length : Int) - 1)] }) s1.heap.objs.size (S l) t (((S l).length : Int) - 1) := ⟨_, Heap.get?_push_size _ rfl, rfl, rfl⟩
  refine pyIter_rev hit ?_
  refine ⟨s1.heap.objs.size, [s1.heap.objs.size], _, _, H1, rfl, I1.kept (t' := tk) fun b o e => Heap.get?_push_of_some _ e, turn_rev _ l t hz, ⟨Nat.zero_le _, ?_⟩, fun b hb => ?_, q⟩
  · have e : (l.length : Int) - 1 - ((0 : Nat) : Int) = ((S l).length : Int) - 1 := by rw [S_len]; simp
    rw [e]
    exact hit
  · have e : b = s1.heap.objs.size := by simpa using hb
    subst e
    exact I1.fpOk (Nat.le_refl _) (I1.hok.fresh (Nat.le_refl _))
end
theorem for_fix {xs : List V} {g : TG} {tb : TS} {D : Ends} {σ : St} {H : Hp} (Pv : Nat -> St -> Hp -> Prop) (h0 : Pv 0 σ H)
    (hs : ∀ i x σ H, xs[i]? = some x -> Pv i σ H -> g x σ H fun σ2 H2 => tb { D with nx := Pv (i + 1), ct := Pv (i + 1), bk := D.nx } σ2 H2) (hd : ∀ σ H, Pv xs.length σ H -> D.nx σ H) :
    ∃ W : Nat -> Nat -> St -> Hp -> Prop, (∃ m, W 0 m σ H) /\ ∀ i m σ H, W i m σ H ->
      ((Itx xs).stop i H /\ D.nx σ H) \/ ((Itx xs).go i H /\ ∃ N : St -> Hp -> Prop, (∀ σ' H', N σ' H' -> ∃ m', m' < m /\ W (i + 1) m' σ' H') /\ ∀ x H', (Itx xs).yld i H x H' -> g x σ H' fun σ2 H2 => tb { D with nx := N, ct := N, bk := D.nx } σ2 H2) := by
  refine ⟨fun i m σ H => m = xs.length - i /\ i <= xs.length /\ Pv i σ H, ⟨xs.length, by simp, Nat.zero_le _, h0⟩, ?_⟩
  rintro i m σ H ⟨rfl, hi, p⟩
  by_cases hlt : i < xs.length
  · refine .inr ⟨hlt, Pv (i + 1), fun σ' H' p' => ⟨xs.length - (i + 1), by omega, rfl, hlt, p'⟩, fun x H' y => ?_⟩
    obtain ⟨e, y⟩ := y
    subst e
    exact hs i x σ _ y p
  · have e : i = xs.length := by omega
    subst e
    exact .inl ⟨Nat.le_refl _, hd σ H p⟩
theorem comp_by {J : It} {n : Nat} {xs : Nat -> V -> Prop} {σc : St} {g : TG} {tc : TT} {te : TE} {Q : VK} {H1 : Hp} (Pv : Nat -> List V -> Hp -> Prop) (hn : n < sizeLine) (hgo : ∀ i acc H, i < n -> Pv i acc H -> J.go i H) (hstop : ∀ acc H, Pv n acc H -> J.stop n H)
    (hy : ∀ i acc H x H', i < n -> Pv i acc H -> J.yld i H x H' -> H' = H /\ xs i x) (h0 : Pv 0 [] H1)
    (hs : ∀ (i : Nat) (x : V) (acc : List V) (H : Hp) (Nx : List V -> Hp -> Prop), i < n -> xs i x -> acc.length <= i -> Pv i acc H -> (∀ acc' H', acc'.length <= i + 1 -> Pv (i + 1) acc' H' -> Nx acc' H') ->
      g x σc H fun σ2 H2 => Wk σc σ2 /\ tc σ2 H2 fun b H3 => if b = true then te σ2 H3 fun v H4 => Nx (acc ++ [v]) H4 else Nx acc H3)
    (hd : ∀ acc H D, acc.length <= n -> Pv n acc H -> H D = none -> Q (.ref D) (upd H D (.lst acc))) : CompW J σc g tc te Q H1 := by
  refine ⟨fun i m acc H => m = n - i /\ i <= n /\ acc.length <= i /\ Pv i acc H, ⟨n, by simp, Nat.zero_le _, Nat.le_refl _, h0⟩, ?_⟩
  rintro i m acc H ⟨rfl, hi, hl, p⟩
  refine ⟨by omega, ?_⟩
  by_cases hlt : i < n
  · refine .inr ⟨hgo i acc H hlt p, fun x H' y => ?_⟩
    obtain ⟨rfl, y2⟩ := hy i acc H x H' hlt p y
    exact hs i x acc _ (fun acc' H' => ∃ m', m' < n - i /\ (m' = n - (i + 1) /\ i + 1 <= n /\ acc'.length <= i + 1 /\ Pv (i + 1) acc' H')) hlt y2 hl p fun acc' H' h1 h2 => ⟨n - (i + 1), by omega, rfl, hlt, h1, h2⟩
  · have e : i = n := by omega
    subst e
    exact .inl ⟨hstop acc H p, fun D hD => hd acc H D hl p hD⟩
theorem comp_fix {xs : List V} {σc : St} {g : TG} {tc : TT} {te : TE} {Q : VK} {H1 : Hp} (Pv : Nat -> List V -> Hp -> Prop) (hn : xs.length < sizeLine) (h0 : Pv 0 [] H1)
    (hs : ∀ (i : Nat) (x : V) (acc : List V) (H : Hp) (Nx : List V -> Hp -> Prop), i < xs.length -> xs[i]? = some x -> acc.length <= i -> Pv i acc H -> (∀ acc' H', acc'.length <= i + 1 -> Pv (i + 1) acc' H' -> Nx acc' H') ->
      g x σc H fun σ2 H2 => Wk σc σ2 /\ tc σ2 H2 fun b H3 => if b = true then te σ2 H3 fun v H4 => Nx (acc ++ [v]) H4 else Nx acc H3)
    (hd : ∀ acc H D, acc.length <= xs.length -> Pv xs.length acc H -> H D = none -> Q (.ref D) (upd H D (.lst acc))) : CompW (Itx xs) σc g tc te Q H1 :=
  comp_by (xs := fun i x => xs[i]? = some x) Pv hn (fun i _ _ h _ => h) (fun _ _ _ => Nat.le_refl _) (fun i _ H x H' _ _ y => y) h0 hs hd
theorem comp_rng {lo : Int} {n : Nat} {σc : St} {g : TG} {tc : TT} {te : TE} {Q : VK} {H1 : Hp} (Pv : Nat -> List V -> Hp -> Prop) (hn : n < sizeLine) (h0 : Pv 0 [] H1)
    (hs : ∀ (i : Nat) (acc : List V) (H : Hp) (Nx : List V -> Hp -> Prop), i < n -> acc.length <= i -> Pv i acc H -> (∀ acc' H', acc'.length <= i + 1 -> Pv (i + 1) acc' H' -> Nx acc' H') ->
      g (.int (lo + i)) σc H fun σ2 H2 => Wk σc σ2 /\ tc σ2 H2 fun b H3 => if b = true then te σ2 H3 fun v H4 => Nx (acc ++ [v]) H4 else Nx acc H3)
    (hd : ∀ acc H D, acc.length <= n -> Pv n acc H -> H D = none -> Q (.ref D) (upd H D (.lst acc))) : CompW (Itr lo n) σc g tc te Q H1 :=
  comp_by (xs := fun i x => x = .int (lo + i)) Pv hn (fun i _ _ h _ => h) (fun _ _ _ => Nat.le_refl _) (fun i _ H x H' _ _ y => y) h0 (fun i x acc H Nx h1 h2 => by subst h2; exact hs i acc H Nx h1) hd
theorem comp_list {K : PySem.W.Frag} {a : Addr} {xs : List V} {σc : St} {g : TG} {tc : TT} {te : TE} {Q : VK} {H1 : Hp} (Pv : Nat -> List V -> Hp -> Prop) (hn : xs.length < sizeLine) (hl : ∀ i acc H, Pv i acc H -> SqL K H a xs) (h0 : Pv 0 [] H1)
    (hs : ∀ (i : Nat) (x : V) (acc : List V) (H : Hp) (Nx : List V -> Hp -> Prop), i < xs.length -> xs[i]? = some x -> acc.length <= i -> Pv i acc H -> (∀ acc' H', acc'.length <= i + 1 -> Pv (i + 1) acc' H' -> Nx acc' H') ->
      g x σc H fun σ2 H2 => Wk σc σ2 /\ tc σ2 H2 fun b H3 => if b = true then te σ2 H3 fun v H4 => Nx (acc ++ [v]) H4 else Nx acc H3)
    (hd : ∀ acc H D, acc.length <= xs.length -> Pv xs.length acc H -> H D = none -> Q (.ref D) (upd H D (.lst acc))) : CompW (Itl K a) σc g tc te Q H1 :=
  comp_by (xs := fun i x => xs[i]? = some x) Pv hn (fun i acc H h p => ⟨xs, xs[i], hl i acc H p, by simp [h]⟩) (fun acc H p => ⟨xs, hl _ acc H p, Nat.le_refl _⟩) (fun i acc H x H' h p y => ⟨y.1, y.2 xs (hl i acc H p)⟩) h0 hs hd
noncomputable def tWhileN (c : TT) (tb : TS) : TS := fun D σ H => ∃ W : Nat -> St -> Hp -> Prop, (∃ m, W m σ H) /\ ∀ m σ H, W m σ H ->
  c σ H fun b H1 => if b = true then tb { D with nx := fun σ' H' => ∃ m', m' < m /\ W m' σ' H', ct := fun σ' H' => ∃ m', m' < m /\ W m' σ' H', bk := D.nx } σ H1 else D.nx σ H1
theorem ps_whileN {X : Cx} {c : Expr} {body : List Stmt} {tc : TT} {tb : TS} {pos : Pos} (hp : PassesOwn (model X.prog X.w) X.A X.env X.xe) (hc : PT X c tc) (hb : PSs X body tb) : PS X (.While c body [] pos) (tWhileN tc tb) := by
  intro pins s σ H D I h
  obtain ⟨W, ⟨m0, w0⟩, turn⟩ := h
  refine wpAny_While (codeAny_whileLoop (fun n s' => ∃ σ' H', Inv X pins σ' H' s' /\ W n σ' H') ?_ m0 ⟨σ, H, I, w0⟩)
  rintro n s1 ⟨σ1, H1, I1, w1⟩
  refine wpAny_passesOwn hp (thn (hc pins s1 σ1 H1 _ I1 (turn n σ1 H1 w1)) fun b s2 ⟨H2, I2, q2⟩ => ?_)
  cases b with
  | true =>
    rw [if_pos rfl] at q2 ⊢
    refine wpAny_passesOwn hp (thn (hb pins s2 σ1 H2 _ I2 q2) fun f s3 q3 => ?_)
    cases f with
    | next =>
      obtain ⟨σ3, H3, I3, m', hm, w3⟩ := q3
      exact ⟨m', hm, σ3, H3, I3, w3⟩
    | cont =>
      obtain ⟨σ3, H3, I3, m', hm, w3⟩ := q3
      exact ⟨m', hm, σ3, H3, I3, w3⟩
    | brk => exact q3
    | ret v => exact q3
  | false =>
    rw [if_neg Bool.false_ne_true] at q2 ⊢
    exact wpAny_execs_nil ⟨σ1, H2, I2, q2⟩
noncomputable def compOk (X : Cx) (scope : Scope) : Bool := (scope.names.all fun y => y.2 != .cell) && (scope.kind == .function) && (scope.names.all fun y => y.2 != .free || X.env.kindOf y.1 == some .cell || X.env.kindOf y.1 == some .free) && (scope.names.all fun y => y.2 != .local || scope.names.lookup y.1 == some .local)
theorem compOk_parts {X : Cx} {scope : Scope} (h : compOk X scope = true) : (∀ y ∈ scope.names, y.2 ≠ .cell) /\ scope.kind = .function /\ (∀ y ∈ scope.names, y.2 = .free -> X.env.kindOf y.1 = some .cell \/ X.env.kindOf y.1 = some .free) /\ (∀ x ∈ scope.names, x.2 = .local -> scope.names.lookup x.1 = some .local) := by
  unfold compOk at h
  simp only [Bool.and_eq_true] at h
  obtain ⟨⟨⟨h1, h2⟩, h3⟩, h4⟩ := h
  refine ⟨fun y hy e => ?_, by simpa using h2, fun y hy e => ?_, fun y hy e => ?_⟩
  · have := List.all_eq_true.mp h1 y hy
    rw [e] at this; simp at this
  · have := List.all_eq_true.mp h3 y hy
    rw [e] at this
    simpa using this
  · have := List.all_eq_true.mp h4 y hy
    rw [e] at this
    simpa using this
theorem pe_compB {X : Cx} {tg iter elt : Expr} {ifs : List Expr} {scope : Scope} {pos : Pos} {wi : TI} {g : TG} {tc : TT} {te : TE} (Nc : List Str) (ix : List (Option Nat)) (hi : PI X tg iter wi) (hix : IxOk X scope Nc ix)
    (hG : ∀ C s H fp, PG (cxComp X scope C Nc s H fp) tg g) (hT : ∀ C s H fp, PF (cxComp X scope C Nc s H fp) ifs tc) (hE : ∀ C s H fp, PE (cxComp X scope C Nc s H fp) elt te) (hok : compOk X scope = true := by rfl) (hcalm : X.calm = true := by rfl)
    (hs : ∀ x, foldedSetIterable iter X.env x = pure x := by intro _; rfl) : PE X (.ListComp elt [⟨tg, iter, ifs, 0⟩] scope pos) (tComp wi ix g tc te) :=
  let ⟨h1, h2, h3, h4⟩ := compOk_parts hok
  pe_comp Nc ix hi hcalm hix h1 h2 h3 h4 hG hT hE hs
theorem ps_setCB {X : Cx} {i : Nat} {x : Str} {tg iter elt : Expr} {ifs : List Expr} {scope : Scope} {pos spos pos' : Pos} {wi : TI} {g : TG} {tc : TT} {te : TE} (Nc : List Str) (ix : List (Option Nat)) (hN : X.N.Nodup) (hxi : X.N[i]? = some x) (hx : Loc X.env.scope x)
    (hi : PI X tg iter wi) (hix : IxOk X scope Nc ix)
    (hG : ∀ C s H fp, PG (cxComp X scope C Nc s H fp) tg g) (hT : ∀ C s H fp, PF (cxComp X scope C Nc s H fp) ifs tc) (hE : ∀ C s H fp, PE (cxComp X scope C Nc s H fp) elt te)
    (hsw : swapsWith (.ListComp elt [⟨tg, iter, ifs, 0⟩] scope pos) (some (.Name x pos')) spos.line X.env = pure true := by rfl) (hok : compOk X scope = true := by rfl) (hcalm : X.calm = true := by rfl)
    (hs : ∀ x, foldedSetIterable iter X.env x = pure x := by intro _; rfl) (hf : X.fn x = true \/ X.env.scope.names.lookup x = some .local := by first | exact .inl rfl | exact .inr rfl | assumption) :
    PS X (.Assign [.Name x pos'] (.ListComp elt [⟨tg, iter, ifs, 0⟩] scope pos) spos) (tAsg (tComp wi ix g tc te) (gName i)) :=
  let ⟨h1, h2, h3, h4⟩ := compOk_parts hok
  ps_setC Nc ix hN hxi hx hsw hi hcalm hix h1 h2 h3 h4 hG hT hE hs hf
section
variable {X : Cx}
noncomputable def rEqS : R2 := fun x y H Q => ∃ a b, x = .str (S a) /\ y = .str (S b) /\ Q (.bl (decide (a = b))) H
noncomputable def rNeS : R2 := fun x y H Q => ∃ a b, x = .str (S a) /\ y = .str (S b) /\ Q (.bl (!decide (a = b))) H
theorem op_eqS : OpR X (compareOp .Eq) rEqS := by
  intro pins s σ H x y v u Q I rx ry h
  obtain ⟨a, b, rfl, rfl, q⟩ := h
  exact op_eq pins s σ H _ _ v u Q I rx ry ⟨rfl, by rw [dec_S]; exact q⟩
theorem op_neS : OpR X (compareOp .NotEq) rNeS := by
  intro pins s σ H x y v u Q I rx ry h
  obtain ⟨a, b, rfl, rfl, q⟩ := h
  exact op_ne pins s σ H _ _ v u Q I rx ry ⟨rfl, by rw [dec_S]; exact q⟩
theorem dec_I {i j : Int} : decide (V.int i = V.int j) = decide (i = j) := by
  by_cases h : i = j
  · subst h; simp
  · rw [decide_eq_false h, decide_eq_false]
    intro q
    exact h (V.int.inj q)
theorem op_eqI : OpR X (compareOp .Eq) (rI0 fun i j => .bl (decide (i = j))) := by
  intro pins s σ H x y v u Q I rx ry h
  obtain ⟨a, b, rfl, rfl, q⟩ := h
  exact op_eq pins s σ H _ _ v u Q I rx ry ⟨rfl, by rw [dec_I]; exact q⟩
theorem op_neI : OpR X (compareOp .NotEq) (rI0 fun i j => .bl (!decide (i = j))) := by
  intro pins s σ H x y v u Q I rx ry h
  obtain ⟨a, b, rfl, rfl, q⟩ := h
  exact op_ne pins s σ H _ _ v u Q I rx ry ⟨rfl, by rw [dec_I]; exact q⟩
noncomputable def rLtS (f : List Nat -> List Nat -> Bool) : R2 := fun x y H Q => ∃ a b, x = .str (S a) /\ y = .str (S b) /\ Q (.bl (f a b)) H
theorem op_ltS : OpR X (compareOp .Lt) (rLtS fun a b => decide (a < b)) := by
  intro pins s σ H x y v u Q I rx ry h
  obtain ⟨a, b, rfl, rfl, q⟩ := h
  exact op_lt_str pins s σ H _ _ v u Q I rx ry ⟨S a, S b, rfl, rfl, by rw [S_list, S_list]; exact q⟩
end
end L2
namespace L2
open PySem PySem.Spec PyProof.Rows
section
variable {X : Cx} {tg : Expr}
theorem ix_listK (K : PySem.W.Frag) (h : X.K = K) : IxR X (rIxL K) := by subst h; exact ix_list
theorem ix_tupK (K : PySem.W.Frag) (h : X.K = K) : IxR X (rIxT K) := by subst h; exact ix_tup
noncomputable def rLenL (K : PySem.W.Frag) : List V -> Hp -> VK -> Prop := fun xs H Q => ∃ p ys, xs = [.ref p] /\ (SqL K H p ys \/ SqT K H p ys) /\ Q (.int ys.length) H
theorem call_len_seqK (K : PySem.W.Frag) (h : X.K = K) : CallR X (.builtin "len") (rLenL K) := by subst h; exact call_len_seq
theorem mt_joinK (K : PySem.W.Frag) (h : X.K = K) : MtR X "str.join" (rJoinS K) := by subst h; exact mt_joinS
noncomputable def rAllB (K : PySem.W.Frag) : List V -> Hp -> VK -> Prop := fun xs H Q => ∃ (p : Addr) (bs : List Bool), xs = [.ref p] /\ SqL K H p (bs.map V.bl) /\ Q (.bl (bs.all id)) H
theorem call_allK (K : PySem.W.Frag) (h : X.K = K) (hc : X.calm = true) : CallR X (.builtin "all") (rAllB K) := by subst h; exact call_allB hc
noncomputable def rListOf (K : PySem.W.Frag) : List V -> Hp -> VK -> Prop := fun xs H Q => ∃ p ys, xs = [.ref p] /\ (SqL K H p ys \/ SqT K H p ys) /\ ∀ l, H l = none -> Q (.ref l) (upd H l (.lst ys))
theorem call_list_ofK (K : PySem.W.Frag) (h : X.K = K) : CallR X (.type "list") (rListOf K) := by subst h; exact call_list_of
theorem sl_listK (K : PySem.W.Frag) (h : X.K = K) : SlR X (rSlL K) := by subst h; exact sl_list
theorem pi_listK (K : PySem.W.Frag) (h : X.K = K) {l : Expr} {tl : TE} (hl : PE X l tl) : PI X tg l (iList K tl) := by subst h; exact pi_list hl
theorem pi_tupK (K : PySem.W.Frag) (h : X.K = K) {l : Expr} {tl : TE} (hl : PE X l tl) : PI X tg l (iTup K tl) := by subst h; exact pi_tup hl
end
section
variable {X : Cx} {o e : Expr} {es : List Expr} {to : TE} {t : TA} {name : Str} {apos cpos : Pos} {T id : String} {r : V -> List V -> Hp -> VK -> Prop}
theorem pe_bm0K (K : PySem.W.Frag) (hK : X.K = K) (pa : PlainAttrs T) (slot : Slot T name id) (hty : typeOf (.builtin id) = pure (.type "method_descriptor")) (hm : MtR X id r) (ho : PE X o to)
    (hbase : attributeBase o name X.env (eval o X.env) = eval o X.env := by rfl) (hline : (apos.endLine == cpos.line) = true := by rfl) : PE X (.Call (.Attribute o name apos) [] [] cpos) (tBM0 K T r to) := by
  subst hK
  exact pe_bm0 pa slot hty hm ho hbase hline
theorem pe_bmK (K : PySem.W.Frag) (hK : X.K = K) (pa : PlainAttrs T) (slot : Slot T name id) (hty : typeOf (.builtin id) = pure (.type "method_descriptor")) (hm : MtR X id r) (ho : PE X o to) (ha : PA X (e :: es) t)
    (hbase : attributeBase o name X.env (eval o X.env) = eval o X.env := by rfl)
    (hfew : ((backTo cpos (starEach (e :: es) X.env)).all (fun x => !x.1) && (backToKw cpos (keywordEach [] X.env)).all (fun x => x.1.isSome)
      && decide ((e :: es).length + ([] : List Keyword).length + (if ([] : List Keyword).isEmpty then 0 else 1) < 30)) = true := by rfl)
    (hline : (apos.endLine == cpos.line) = true := by rfl) (hs : starEach (e :: es) X.env = (false, eval e X.env) :: starEach es X.env := by rfl) (hplain : (backTo cpos (starEach es X.env)).any (·.1) = false := by rfl) :
    PE X (.Call (.Attribute o name apos) (e :: es) [] cpos) (tBM K T r to t) := by
  subst hK
  exact pe_bm pa slot hty hm ho ha hbase hfew hline hs hplain
end
end L2
namespace L2
open PySem PySem.Spec PyProof.Rows
mutual
inductive RdD (K : PySem.W.Frag) (H : Hp) : V -> PyData -> Prop
  | non : RdD K H .non .none
  | bl (b : Bool) : RdD K H (.bl b) (.bool b)
  | int (i : Int) : RdD K H (.int i) (.int i)
  | str (x : Str) : RdD K H (.str x) (.str x)
  | lst {a : Addr} {xs : List V} {ds : List PyData} (h : SqL K H a xs) (r : RdDs K H xs ds) : RdD K H (.ref a) (.list ds)
  | tup {a : Addr} {xs : List V} {ds : List PyData} (h : SqT K H a xs) (r : RdDs K H xs ds) : RdD K H (.ref a) (.tuple ds)
inductive RdDs (K : PySem.W.Frag) (H : Hp) : List V -> List PyData -> Prop
  | nil : RdDs K H [] []
  | cons {x : V} {xs : List V} {d : PyData} {ds : List PyData} (h : RdD K H x d) (r : RdDs K H xs ds) : RdDs K H (x :: xs) (d :: ds)
end
section
variable {X : Cx} {pins : List (Addr × Obj)} {σ : St} {H : Hp} {s : Shared}
mutual
theorem RdD.reads (I : Inv X pins σ H s) : ∀ {x : V} {d : PyData} {u : Value}, RdD X.K H x d -> RelV x u -> ∃ as, Reads s.heap u d as
  | _, _, u, .non, r => by cases (show u = Value.none from r); exact ⟨_, .none⟩
  | _, _, u, .bl b, r => by cases (show u = Value.bool b from r); exact ⟨_, .bool b⟩
  | _, _, u, .int i, r => by obtain ⟨t, rfl⟩ := r; exact ⟨_, .int i t⟩
  | _, _, u, .str x, r => by obtain ⟨t, rfl⟩ := r; exact ⟨_, .str x t⟩
  | _, _, u, .lst (a := a) h q, r => by
    cases (show u = Value.ref a from r)
    obtain ⟨its, rv, pl, _⟩ := I.list h
    obtain ⟨as, ra⟩ := RdDs.reads I q rv
    obtain ⟨o, ho, hc, n, hd⟩ := pl.isList
    exact ⟨_, .list ho hc hd (by simpa using ra)⟩
  | _, _, u, .tup (a := a) h q, r => by
    cases (show u = Value.ref a from r)
    obtain ⟨its, rv, pl, _⟩ := I.tuple h
    obtain ⟨as, ra⟩ := RdDs.reads I q rv
    obtain ⟨o, ho, hc, n, hd⟩ := pl
    exact ⟨_, .tuple ho hc hd (by simpa using ra)⟩
theorem RdDs.reads (I : Inv X pins σ H s) : ∀ {xs : List V} {ds : List PyData} {us : List Value}, RdDs X.K H xs ds -> Vals xs us -> ∃ as, ReadsAll s.heap us ds as
  | _, _, us, .nil, r => by cases r; exact ⟨_, .nil⟩
  | _, _, us, .cons h q, r => by
    cases r with
    | cons r1 r2 =>
      obtain ⟨as, ra⟩ := RdD.reads I h r1
      obtain ⟨bs, rb⟩ := RdDs.reads I q r2
      exact ⟨_, .cons ra rb⟩
end
mutual
theorem RdD.noDict {K : PySem.W.Frag} : ∀ {x : V} {d : PyData}, RdD K H x d -> d.hasDict = false
  | _, _, .non => rfl
  | _, _, .bl b => rfl
  | _, _, .int i => rfl
  | _, _, .str x => rfl
  | _, _, .lst h q => by show PyData.hasDictAll _ = false; exact RdDs.noDict q
  | _, _, .tup h q => by show PyData.hasDictAll _ = false; exact RdDs.noDict q
theorem RdDs.noDict {K : PySem.W.Frag} : ∀ {xs : List V} {ds : List PyData}, RdDs K H xs ds -> PyData.hasDictAll ds = false
  | _, _, .nil => rfl
  | _, _, .cons h q => by
    show (PyData.hasDict _ || PyData.hasDictAll _) = false
    rw [RdD.noDict h, RdDs.noDict q]; rfl
end
end
section
variable {X : Cx}
noncomputable def rEqD (K : PySem.W.Frag) : R2 := fun x y H Q => ∃ dx dy, RdD K H x dx /\ RdD K H y dy /\ (dx.canLay0 = true /\ dy.canLay0 = true) /\ dx.depth <= 60 /\ Q (.bl (PyData.eqv dx dy)) H
noncomputable def rNeD (K : PySem.W.Frag) : R2 := fun x y H Q => ∃ dx dy, RdD K H x dx /\ RdD K H y dy /\ (dx.canLay0 = true /\ dy.canLay0 = true) /\ dx.depth <= 60 /\ Q (.bl (!PyData.eqv dx dy)) H
theorem op_eqD {k : Nat} (K : PySem.W.Frag) (h : X.K = K) (hr : Room k X.A) : OpR X (compareOp .Eq) (rEqD K) := by
  subst h
  intro pins s σ H x y v u Q I rx ry h
  obtain ⟨dx, dy, h1, h2, ⟨h3, h4⟩, h5, q⟩ := h
  obtain ⟨as, ra⟩ := h1.reads I rx
  obtain ⟨bs, rb⟩ := h2.reads I ry
  have hu := hr.units
  exact SeqAt.compareEq_reads ra rb h3 h4 (by omega) ⟨.bl _, H, I, rfl, q⟩
theorem op_neD {k : Nat} (K : PySem.W.Frag) (h : X.K = K) (hr : Room k X.A) : OpR X (compareOp .NotEq) (rNeD K) := by
  subst h
  intro pins s σ H x y v u Q I rx ry h
  obtain ⟨dx, dy, h1, h2, ⟨h3, h4⟩, h5, q⟩ := h
  obtain ⟨as, ra⟩ := h1.reads I rx
  obtain ⟨bs, rb⟩ := h2.reads I ry
  have hu := hr.units
  exact SeqAt.compareNe_reads ra rb h3 h4 (by omega) ⟨.bl _, H, I, rfl, q⟩
noncomputable def tTruL (K : PySem.W.Frag) (ta : TE) : TT := fun σ H Q => ta σ H fun x H' => ∃ p xs, x = .ref p /\ SqL K H' p xs /\ Q (!xs.isEmpty) H'
theorem pt_truL {a : Expr} {ta : TE} (K : PySem.W.Frag) (h : X.K = K) (ha : PE X a ta) (he : ∀ whole, isTrue a X.env whole = (do let v <- whole; standAt a.pos; holding [v] (truthy v)) := by intro _; rfl) : PT X a (tTruL K ta) := by
  subst h
  intro pins s σ H Q I hw
  refine isTrue_plain (thn (ha pins s σ H _ I hw) fun v s1 ⟨x, H1, I1, r1, q1⟩ => ?_) (he _)
  obtain ⟨p, xs, rfl, hq, q⟩ := q1
  exact tru_ok pins s1 σ H1 _ v Q I1 r1 ⟨_, .inl ⟨xs, hq, rfl⟩, q⟩
theorem pg_tupK (K : PySem.W.Frag) (h : X.K = K) {es : List Expr} {k : Nat} {t : TGs} {n : Nat} {pos : Pos} (hc : X.calm = true) (hs : PGs X es t)
    (hn : (assignEach es X.env).length = n := by rfl) (hst : (assignEach es X.env).findIdx? (·.1) = none := by rfl) : PG X (.Tuple es k pos) (gTup K n t) := by
  subst h
  exact pg_tup hc hs hn hst
end
end L2
namespace L2
open PySem PySem.Spec PyProof.Rows
noncomputable def lesser (a b : List Nat) : List Nat := if b < a then b else a
noncomputable def leastOf : List Nat -> List (List Nat) -> List Nat
  | a, [] => a
  | a, b :: r => leastOf (lesser a b) r
noncomputable def minBt (ls : List (List Nat)) (i j : Nat) : Bool := decide (ls.getD i [] < ls.getD j [])
theorem argBest_least : ∀ (n : Nat) (ls : List (List Nat)), n < ls.length -> ls.getD (argBest (minBt ls) n) [] = leastOf (ls.getD 0 []) ((ls.drop 1).take n)
  | 0, ls, _ => by simp [argBest, leastOf]
  | n + 1, ls, h => by
    have ih := argBest_least n ls (by omega)
    have e : (ls.drop 1).take (n + 1) = (ls.drop 1).take n ++ [ls.getD (n + 1) []] := by
      rw [List.take_add_one, List.getElem?_drop]
      have : 1 + n = n + 1 := by omega
      rw [this, List.getD_eq_getElem?_getD, List.getElem?_eq_getElem h]
      rfl
    have hs : ∀ (r : List (List Nat)) (a b : List Nat), leastOf a (r ++ [b]) = lesser (leastOf a r) b := by
      intro r
      induction r with
      | nil => intro a b; rfl
      | cons c r ih => intro a b; exact ih _ _
    rw [e, hs, <- ih]
    show ls.getD (if minBt ls (n + 1) (argBest (minBt ls) n) = true then n + 1 else argBest (minBt ls) n) [] = _
    unfold lesser
    by_cases z : ls.getD (n + 1) [] < ls.getD (argBest (minBt ls) n) []
    · rw [if_pos (show minBt ls (n + 1) (argBest (minBt ls) n) = true from decide_eq_true z), if_pos z]
    · rw [if_neg (show ¬ minBt ls (n + 1) (argBest (minBt ls) n) = true from fun w => z (of_decide_eq_true w)), if_neg z]
theorem argBest_lt (bt : Nat -> Nat -> Bool) : ∀ n, argBest bt n <= n
  | 0 => Nat.le_refl _
  | n + 1 => by
    unfold argBest
    split
    · exact Nat.le_refl _
    · exact Nat.le_succ_of_le (argBest_lt bt n)
section
variable {X : Cx}
theorem cmp_texts {prog : Program} {w : World} {A : Around} {ls : List (List Nat)} {its : List Value} (r : Vals (ls.map fun l => V.str (S l)) its) : CmpOf prog w A .Lt (fun i v => its.toArray[i]? = some v) (minBt ls) := by
  intro i j vi vj s Q E hi hj hQ
  have get : ∀ {i : Nat} {v : Value}, its.toArray[i]? = some v -> ∃ t, v = .str (S (ls.getD i [])) t := by
    intro i v h
    have h' : its[i]? = some v := by simpa using h
    have hl : i < ls.length := by have := (List.getElem?_eq_some_iff.mp h').1; rw [<- r.length, List.length_map] at this; exact this
    obtain ⟨u, hu, ru⟩ := r.get (i := i) (x := V.str (S (ls.getD i []))) (by rw [List.getElem?_map, List.getD_eq_getElem?_getD, List.getElem?_eq_getElem hl]; rfl)
    rw [h'] at hu; cases hu
    exact ru
  obtain ⟨t, rfl⟩ := get hi
  obtain ⟨u, rfl⟩ := get hj
  have q : Q (.bool (decide ((S (ls.getD i [])).cps.toList < (S (ls.getD j [])).cps.toList))) s := by rw [S_list, S_list]; exact hQ
  exact lt_str q
noncomputable def rMinL (K : PySem.W.Frag) : List V -> Hp -> VK -> Prop := fun xs H Q => ∃ (p : Addr) (a : List Nat) (ls : List (List Nat)), xs = [.ref p] /\ SqL K H p ((a :: ls).map fun l => V.str (S l)) /\ Q (.str (S (leastOf a ls))) H
theorem call_minLS (K : PySem.W.Frag) (h : X.K = K) (hc : X.calm = true) : CallR X (.builtin "min") (rMinL K) := by
  subst h
  intro pins s σ H xs us Q I r h
  obtain ⟨p, a, ls, rfl, hq, q⟩ := h
  obtain ⟨u, rfl, ru⟩ := vals1 r
  cases ru
  obtain ⟨its, rv, pl, hz⟩ := I.list hq
  have hlen : its.length = ls.length + 1 := by rw [<- rv.length, List.length_map]; rfl
  have hp : p < s.heap.objs.size := by
    obtain ⟨o, n, e, _⟩ := pl
    exact Heap.lt_size e
  refine call_min_walk (wpAny_pyIter_list pl.isList ?_)
  refine ⟨s.heap.objs.size, _, _, _, _, _, minBt (a :: ls), rfl, Walks.list (A := X.A.in1) (I.ok.hd hc) s.heap.objs.size p (Nat.ne_of_lt hp) its.toArray, ⟨⟨_, Heap.get?_push_size _ rfl, rfl, rfl⟩, ?_⟩, fun b hb => ?_, by rw [List.size_toArray]; omega, cmp_texts rv, fun v h' tk hP hk => ?_⟩
  · obtain ⟨o, ho, hr⟩ := pl.isList
    exact ⟨o, Heap.get?_push_of_some _ ho, hr⟩
  · show b < (s.heap.push _).objs.size
    rw [Heap.size_push]
    rcases List.mem_cons.mp hb with z | z
    · rw [z]; exact Nat.lt_succ_self _
    · rw [List.mem_singleton.mp z]; exact Nat.lt_succ_of_lt hp
  · have hP' : its[argBest (minBt (a :: ls)) (its.toArray.size - 1)]? = some v := by simpa using hP
    have hn : its.toArray.size - 1 = ls.length := by rw [List.size_toArray]; omega
    rw [hn] at hP'
    have hle := argBest_lt (minBt (a :: ls)) ls.length
    have e := argBest_least ls.length (a :: ls) (by show ls.length < ls.length + 1; omega)
    have e2 : (((a :: ls).drop 1).take ls.length) = ls := by show ls.take ls.length = ls; exact List.take_of_length_le (Nat.le_refl _)
    rw [e2] at e
    have hl : argBest (minBt (a :: ls)) ls.length < (a :: ls).length := by show _ < ls.length + 1; omega
    obtain ⟨u, hu, ru⟩ := rv.get (i := argBest (minBt (a :: ls)) ls.length) (x := V.str (S (leastOf a ls))) (by
      rw [List.getElem?_map, List.getElem?_eq_getElem hl]
      rw [List.getD_eq_getElem?_getD, List.getElem?_eq_getElem hl] at e
      have e' : (a :: ls)[argBest (minBt (a :: ls)) ls.length] = leastOf a ls := e
      rw [e']
      rfl)
    rw [hP'] at hu; cases hu
    have I1 : Inv X pins σ H { s with heap := h', toks := tk } := by
      have I0 : Inv X pins σ H { s with heap := s.heap.push { cls := .type "list_iterator", data := .fields #[.ref p, .int 0 0] } } := I.kept (t' := s.toks) fun b o e => Heap.get?_push_of_some _ e
      have f := I.fpOk (H' := H) (b := s.heap.objs.size) (Nat.le_refl _) I.fresh
      have J := I0.turned (h' := h') (t' := tk) (it := s.heap.objs.size) (fun b o hb e => hk b o (by simpa using hb) e) f.1 f.2.1 f.2.2.2.1 f.2.2.2.2.1 f.2.2.2.2.2
      exact J
    exact ⟨.str (S (leastOf a ls)), H, I1, ru, q⟩
end
end L2
namespace L2
open PySem PySem.Spec PyProof.Rows
section
variable {X : Cx}
theorem op_inK (K : PySem.W.Frag) (h : X.K = K) : OpR X (compareOp .In) (rIn K false) := by subst h; exact op_in_seq
structure SmD (k n : Nat) (d : PyData) : Prop where
  lv : d.leavesShort 13 = true
  sh : d.showable = true
  ly : d.canLay0 = true
  dp : d.depth <= k
  wt : d.weight <= n
structure SmDs (k n : Nat) (ds : List PyData) : Prop where
  lv : PyData.leavesShortAll 13 ds = true
  sh : PyData.showableAll ds = true
  ly : PyData.canLayAll0 ds = true
  dp : PyData.depthAll ds <= k
  wt : PyData.weightAll ds <= n
theorem SmD.str {k n : Nat} {l : List Nat} (h : ∀ c ∈ l, c < 128) (hn : l.length <= n) : SmD k n (.str (S l)) := by
  refine ⟨?_, rfl, ?_, Nat.zero_le _, by show (S l).cps.size <= n; rw [S_size]; exact hn⟩
  · show ((S l).cps.toList.all fun c => decide (c < 16 ^ 8)) = true
    rw [S_list, List.all_eq_true]
    intro c hc
    have := h c hc
    exact decide_eq_true (by omega)
  · show PyData.strOk (S l) = true
    unfold PyData.strOk
    rw [Array.all_eq_true_iff_forall_mem]
    intro c hc
    have : c ∈ l := by simpa [S] using hc
    have := h c this
    simp; omega
theorem SmD.int {k n : Nat} {i : Int} (h : i.natAbs < 10 ^ 12) (hn : 40 <= n) : SmD k n (.int i) := by
  have hl : i.natAbs.log2 < 40 := by
    by_cases z : i.natAbs = 0
    · rw [z]; decide
    · rw [Nat.log2_lt z]
      exact Nat.lt_trans h (by decide)
  refine ⟨?_, ?_, rfl, Nat.zero_le _, ?_⟩
  · show decide ((PyData.shown (.int i)).length <= 13) = true
    exact decide_eq_true (PyData.shown_int_le h)
  · show decide (i.natAbs.log2 < 1920) = true
    exact decide_eq_true (by omega)
  · show (if i == 0 then 0 else i.natAbs.log2 + 1) <= n
    split <;> omega
theorem SmDs.nil {k n : Nat} : SmDs k n [] := ⟨rfl, rfl, rfl, Nat.zero_le _, Nat.zero_le _⟩
theorem SmDs.cons {k a b n : Nat} {x : PyData} {xs : List PyData} (h : SmD k a x) (t : SmDs k b xs) (hn : a + 1 + b <= n) : SmDs k n (x :: xs) := by
  refine ⟨?_, ?_, ?_, ?_, ?_⟩
  · show (PyData.leavesShort 13 x && PyData.leavesShortAll 13 xs) = true; rw [h.lv, t.lv]; rfl
  · show (PyData.showable x && PyData.showableAll xs) = true; rw [h.sh, t.sh]; rfl
  · show (PyData.canLay0 x && PyData.canLayAll0 xs) = true; rw [h.ly, t.ly]; rfl
  · show max (PyData.depth x) (PyData.depthAll xs) <= k; exact Nat.max_le.mpr ⟨h.dp, t.dp⟩
  · show PyData.weight x + 1 + PyData.weightAll xs <= n
    have := h.wt; have := t.wt; omega
theorem SmDs.all {k a : Nat} : ∀ {xs : List PyData} {n : Nat}, (∀ x ∈ xs, SmD k a x) -> (a + 1) * xs.length <= n -> SmDs k n xs
  | [], _, _, _ => .nil
  | x :: xs, n, h, hn => .cons (b := (a + 1) * xs.length) (h x List.mem_cons_self) (SmDs.all (fun y hy => h y (List.mem_cons_of_mem _ hy)) (Nat.le_refl _)) (by rw [List.length_cons, Nat.mul_succ] at hn; omega)
theorem SmD.tup {k n : Nat} {ds : List PyData} (h : SmDs k n ds) : SmD (k + 1) n (.tuple ds) := ⟨h.lv, h.sh, h.ly, Nat.succ_le_succ h.dp, h.wt⟩
end
end L2
namespace L2
open PySem PySem.Spec PyProof.Rows
end L2
namespace L2
open PySem PySem.Spec PyProof.Rows
section
variable {X : Cx}
end
end L2
namespace L2
open PySem PySem.Spec PyProof.Rows
section
variable {X : Cx} {pins : List (Addr × Obj)} {σ : St} {H : Hp} {s : Shared} {h' : Heap}
theorem Inv.turnLaid {t' : Nat} {ch : List Addr} {T : Addr} {ob : HO} (I : Inv X pins σ H s) (k : ∀ b o, b ∉ ch -> s.heap.get? b = some o -> h'.get? b = some o) (hf : ∀ b ∈ ch, FpOk X pins H b)
    (hT : s.heap.objs.size <= T) (new : ObjOk X.prog X.w (upd H T ob) h' T ob) : Inv X pins σ (upd H T ob) { s with heap := h', toks := t' } := by
  have hn := I.hok.fresh hT
  have nit : ∀ b u, H b = some u -> b ∉ ch := fun b u e z => by rw [(hf b z).1] at e; cases e
  have neT : ∀ b o, s.heap.get? b = some o -> b ≠ T := fun b o e z => absurd (Nat.lt_of_lt_of_le (Heap.lt_size e) hT) (by rw [z]; exact Nat.lt_irrefl _)
  refine I.step (g' := s.gens) (d' := s.drawn) (ch := ch) (fun b hb => ?_) (fun b o _ _ hc e _ => k b o hc e) (fun b o _ _ hc e _ => ⟨o.slots, k b o hc e⟩) (fun b o _ e n => by rw [upd_ne (neT b o e)]; exact n)
    (fun b o hc e => ⟨o, k b o hc e⟩) (fun b xs e => by rw [upd_ne (ne_of_none e hn)]; exact e) (fun b o u e => by rw [upd_ne (ne_of_none e hn)]; exact e) (fun b ps e => ⟨#[], by rw [upd_ne (ne_of_none e hn), e]; simp⟩) (fun m hm => ?_) (fun b u e => ?_) I.bare
  · obtain ⟨_, h2, _, h4, h5, h6⟩ := hf b hb
    exact ⟨h4, h2, h5, h6⟩
  · obtain ⟨o, es, ep, ho, r⟩ := hm
    exact ⟨o, es, ep, k _ o (fun z => (hf _ z).2.1 rfl) ho, r⟩
  · by_cases hb : b = T
    · subst hb; rw [upd_same] at e; cases e; exact new
    · rw [upd_ne hb] at e
      refine (I.hok b u e).stay (fun c v hc q => k c v ?_ q) (fun c q => by rw [upd_ne (ne_of_none q hn)]; exact q) fun c xs q => by rw [upd_ne (ne_of_none q hn)]; exact q
      rcases hc with z | z
      · rw [z]; exact nit b u e
      · exact nit c _ z
theorem Inv.turnedL {t' : Nat} {ch : List Addr} (I : Inv X pins σ H s) (k : ∀ b o, b ∉ ch -> s.heap.get? b = some o -> h'.get? b = some o) (hf : ∀ b ∈ ch, FpOk X pins H b) : Inv X pins σ H { s with heap := h', toks := t' } := by
  have nit : ∀ b u, H b = some u -> b ∉ ch := fun b u e z => by rw [(hf b z).1] at e; cases e
  refine I.step (g' := s.gens) (d' := s.drawn) (ch := ch) (fun b hb => ?_) (fun b o _ _ hc e _ => k b o hc e) (fun b o _ _ hc e _ => ⟨o.slots, k b o hc e⟩) (fun b o _ e n => n)
    (fun b o hc e => ⟨o, k b o hc e⟩) (fun b xs e => e) (fun b o u e => e) (fun b ps e => ⟨#[], by rw [e]; simp⟩) (fun m hm => ?_) (fun b u e => ?_) I.bare
  · obtain ⟨_, h2, _, h4, h5, h6⟩ := hf b hb
    exact ⟨h4, h2, h5, h6⟩
  · obtain ⟨o, es, ep, ho, r⟩ := hm
    exact ⟨o, es, ep, k _ o (fun z => (hf _ z).2.1 rfl) ho, r⟩
  · refine (I.hok b u e).stay (fun c v hc q => k c v ?_ q) (fun c q => q) fun c xs q => q
    rcases hc with z | z
    · rw [z]; exact nit b u e
    · exact nit c _ z
end
noncomputable def ItE (l : List Nat) : It := ⟨fun i _ => i < l.length, fun i H x H' => ∃ T c, l[i]? = some c /\ x = .ref T /\ H T = none /\ H' = upd H T (.tup [.int i, .str (S [c])]), fun i _ => l.length <= i⟩
theorem draws_str {prog : Program} {w : World} {A : Around} (hh : A.handled = none) (it : Addr) (x : Str) (t : Tok) :
    Draws prog w A it [it] x.cps.size (fun i v => ∃ c u, x.cps[i]? = some c /\ v = .str ⟨#[c]⟩ u) (fun i h => h.IsStrIter it (strIterType x) x t i) := by
  by_cases ha : x.cps.all (· < 128) = true
  · have et : strIterType x = "str_ascii_iterator" := by unfold strIterType; rw [if_pos ha]
    rw [et]; exact Draws.strAscii hh it x t
  · have et : strIterType x = "str_iterator" := by unfold strIterType; rw [if_neg ha]
    rw [et]; exact Draws.strWide hh it x t
theorem turn_enumS {P : Program} {w : World} {K : PySem.W.Frag} {elts : List Expr} {k : Nat} {pos : Pos} (e it : Addr) (hei : e ≠ it) (l : List Nat) (t : Tok) :
    Turn P w K (.Tuple elts k pos) (ItE l) [e, it] e (fun i h => i <= l.length /\ (∃ old, IsEnum h e it i old) /\ h.IsStrIter it (strIterType (S l)) (S l) t i) where
  mem := by simp
  obj := fun i h st b hb => by
    obtain ⟨_, ⟨old, he⟩, o, ho, hc, hd⟩ := st
    rcases List.mem_cons.mp hb with z | z
    · rw [z]; exact ⟨_, he, fun v z => by cases z⟩
    · rw [List.mem_singleton.mp z]; exact ⟨o, ho, fun v z => by rw [hd] at z; cases z⟩
  keep := fun i h h' st kp => by
    obtain ⟨h1, ⟨old, he⟩, o, ho, r⟩ := st
    exact ⟨h1, ⟨old, kp e (by simp) _ he⟩, o, kp it (by simp) o ho, r⟩
  item := by
    intro X hP hw hK hc i pins s σ H E I hf st hg
    subst hP hw hK
    obtain ⟨_, st1, st2⟩ := st
    have D := draws_str (prog := X.prog) (w := X.w) (A := X.A.in1) (I.ok.hd hc) it (S l) t
    have W := WalksT.enumerateD D e hei (by simpa using hei) (by simp)
    have hi : i < (S l).cps.size := by rw [S_size]; exact hg
    refine W.item i s _ _ hi ⟨st1, st2⟩ fun T vals h' tk hPt hT hTup hMid hk => ⟨_, rfl, ?_⟩
    refine W.go elts k pos i T { s with heap := h', toks := tk } _ _ hMid fun h2 hst2 hk2 => ?_
    obtain ⟨tt, x, ⟨c, u, hcx, rfl⟩, rfl⟩ := hPt
    have hTw : T ∉ [e, it] := W.apart i T h' hMid
    have hTup2 : h2.IsTuple T #[.int i tt, .str ⟨#[c]⟩ u] := by
      obtain ⟨o, ho, r⟩ := hTup
      exact ⟨o, hk2 T o hTw ho, r⟩
    have hl : l[i]? = some c := by simpa [S] using hcx
    refine ⟨.ref T, upd H T (.tup [.int i, .str (S [c])]), ?_, rfl, ⟨T, c, hl, rfl, I.hok.fresh hT, rfl⟩, ⟨hg, hst2.1, hst2.2⟩, fun b hb => ?_⟩
    · refine I.turnLaid (t' := tk) (h' := h2) (fun b o hb y => hk2 b o hb (hk b o hb y)) hf hT ?_
      exact ⟨by show 2 <= sizeLine; decide, [.int i tt, .str ⟨#[c]⟩ u], .cons ⟨tt, rfl⟩ (.cons ⟨u, rfl⟩ .nil), hTup2⟩
    · rw [upd_ne (fun z : b = T => hTw (z ▸ hb))]; exact (hf b hb).1
  done := by
    intro X hP hw hK hc i pins s σ H E I hf st hg
    subst hP hw hK
    obtain ⟨h1, st1, st2⟩ := st
    have e1 : i = l.length := Nat.le_antisymm h1 hg
    have D := draws_str (prog := X.prog) (w := X.w) (A := X.A.in1) (I.ok.hd hc) it (S l) t
    have W := WalksT.enumerateD D e hei (by simpa using hei) (by simp)
    refine W.done s _ _ ?_ fun h' tk hk => ⟨rfl, I.turnedL (t' := tk) hk hf⟩
    rw [S_size, <- e1]
    exact ⟨st1, st2⟩
  self := fun _ _ s _ _ st h => by
    obtain ⟨_, ⟨old, he⟩, _⟩ := st
    exact wpAny_pyIter_enum he h
noncomputable def iEnumS (ta : TA) : TI := fun σ H R => ta σ H fun vs H1 => ∃ l, vs = [.str (S l)] /\ R (ItE l) H1
theorem pi_enumS {X : Cx} {elts : List Expr} {k : Nat} {pos' : Pos} {a : Expr} {ta : TA} {p pos : Pos} (hg : Gl X "enumerate") (hm : X.mg "enumerate" = none) (ha : PA X [a] ta) (hs : starEach [a] X.env = [(false, eval a X.env)] := by rfl) : PI X (.Tuple elts k pos') (.Call (.Name "enumerate" p) [a] [] pos) (iEnumS ta) := by
  intro pins s σ H R I h
  refine Call_ (ld_blt I hg hm boot_enumerate (PyProof.Rows.callWith_type1 (thn (ha pos pins s σ H _ I h) fun us s1 ⟨vs, H1, I1, r1, q1⟩ => ?_) hs rfl))
  obtain ⟨l, rfl, q⟩ := q1
  obtain ⟨u, rfl, t, rfl⟩ := vals1 r1
  refine call_enumerate_str fun h' he hit hsz hk => ?_
  refine wpAny_pyIter_enum he ?_
  refine ⟨s1.heap.objs.size + 1, [s1.heap.objs.size + 1, s1.heap.objs.size], _, _, H1, rfl, I1.kept (t' := s1.toks) hk, turn_enumS _ _ (Nat.succ_ne_self _) l t, ⟨Nat.zero_le _, ⟨_, he⟩, hit⟩, fun b hb => ?_, q⟩
  have hb2 : s1.heap.objs.size <= b := by
    rcases List.mem_cons.mp hb with z | z
    · rw [z]; exact Nat.le_succ _
    · rw [List.mem_singleton.mp z]; exact Nat.le_refl _
  exact I1.fpOk hb2 (I1.hok.fresh hb2)
theorem for_enum {l : List Nat} {g : TG} {tb : TS} {D : Ends} {σ : St} {H : Hp} (Pv : Nat -> St -> Hp -> Prop) (h0 : Pv 0 σ H)
    (hs : ∀ i c σ H T, l[i]? = some c -> Pv i σ H -> H T = none -> g (.ref T) σ (upd H T (.tup [.int i, .str (S [c])])) fun σ2 H2 => tb { D with nx := Pv (i + 1), ct := Pv (i + 1), bk := D.nx } σ2 H2) (hd : ∀ σ H, Pv l.length σ H -> D.nx σ H) :
    ∃ W : Nat -> Nat -> St -> Hp -> Prop, (∃ m, W 0 m σ H) /\ ∀ i m σ H, W i m σ H ->
      ((ItE l).stop i H /\ D.nx σ H) \/ ((ItE l).go i H /\ ∃ N : St -> Hp -> Prop, (∀ σ' H', N σ' H' -> ∃ m', m' < m /\ W (i + 1) m' σ' H') /\ ∀ x H', (ItE l).yld i H x H' -> g x σ H' fun σ2 H2 => tb { D with nx := N, ct := N, bk := D.nx } σ2 H2) := by
  refine ⟨fun i m σ H => m = l.length - i /\ i <= l.length /\ Pv i σ H, ⟨l.length, by simp, Nat.zero_le _, h0⟩, ?_⟩
  rintro i m σ H ⟨rfl, hi, p⟩
  by_cases hlt : i < l.length
  · refine .inr ⟨hlt, Pv (i + 1), fun σ' H' p' => ⟨l.length - (i + 1), by omega, rfl, hlt, p'⟩, fun x H' y => ?_⟩
    obtain ⟨T, c, hc, rfl, hn, rfl⟩ := y
    exact hs i c σ _ T hc p hn
  · have e : i = l.length := by omega
    subst e
    exact .inl ⟨Nat.le_refl _, hd σ H p⟩
section
variable {X : Cx}
theorem strs_of {ls : List (List Nat)} : ∀ {its : List Value}, Vals (ls.map fun l => V.str (S l)) its -> StrsAre its (ls.map S) := by
  induction ls with
  | nil => intro its r; cases r; exact .nil
  | cons l ls ih =>
    intro its r
    cases r with
    | cons r1 r2 =>
      obtain ⟨t, rfl⟩ := r1
      exact .cons _ t (ih r2)
theorem of_strs : ∀ {its : List Value} {ss : List Str}, StrsAre its ss -> Vals ((ss.map fun x => x.cps.toList).map fun l => V.str (S l)) its
  | _, _, .nil => .nil
  | _, _, .cons x t h => .cons ⟨t, by rw [<- S_of]⟩ (of_strs h)
theorem rising_pw : ∀ (p : Str) (r : List Str), risingS p r = true -> (p :: r).Pairwise fun a b => ¬ b.cps.toList < a.cps.toList
  | p, [], _ => List.pairwise_singleton _ _
  | p, x :: r, h => by
    have h' : (!ltCps x.cps.toList p.cps.toList && risingS x r) = true := h
    rw [Bool.and_eq_true, ltCps_eq] at h'
    have h1 : ¬ x.cps.toList < p.cps.toList := by simpa using h'.1
    have ih := rising_pw x r h'.2
    refine List.pairwise_cons.mpr ⟨fun y hy => ?_, ih⟩
    rcases List.mem_cons.mp hy with z | z
    · rw [z]; exact h1
    · exact List.le_trans (show p.cps.toList <= x.cps.toList from h1) (show x.cps.toList <= y.cps.toList from List.rel_of_pairwise_cons ih z)
theorem sorted_pw {ss : List Str} (h : sortedS ss = true) : (ss.map fun x => x.cps.toList).Pairwise fun a b => ¬ b < a := by
  rw [List.pairwise_map]
  cases ss with
  | nil => exact List.Pairwise.nil
  | cons x r => exact rising_pw x r h
noncomputable def rSortL (K : PySem.W.Frag) : List V -> Hp -> VK -> Prop := fun xs H Q => ∃ (p : Addr) (ls : List (List Nat)), xs = [.ref p] /\ SqL K H p (ls.map fun l => V.str (S l)) /\ ls.length < 64 /\ ∀ (q : Addr) (ls' : List (List Nat)), H q = none -> ls'.Perm ls -> (ls'.Pairwise fun a b => ¬ b < a) -> Q (.ref q) (upd H q (.lst (ls'.map fun l => V.str (S l))))
theorem call_sortedK (K : PySem.W.Frag) (h : X.K = K) : CallR X (.builtin "sorted") (rSortL K) := by
  subst h
  intro pins s σ H xs us Q I r h
  obtain ⟨p, ls, rfl, hq, hn, q⟩ := h
  obtain ⟨u, rfl, ru⟩ := vals1 r
  cases ru
  obtain ⟨its, rv, pl, hz⟩ := I.list hq
  have hlen : its.length = ls.length := by rw [<- rv.length, List.length_map]
  refine sorted_strs (l := p) (vs := its) (ss := ls.map S) pl.isList (strs_of rv) (by omega) fun out ss' h1 h2 h3 => ?_
  obtain ⟨e, he⟩ := sortedAll_at s.heap its out
  have hperm : (ss'.map fun x => x.cps.toList).Perm ls := by
    have := h2.map fun x : Str => x.cps.toList
    rw [List.map_map] at this
    have e2 : ls.map ((fun x : Str => x.cps.toList) ∘ S) = ls := by
      have : ∀ l ∈ ls, ((fun x : Str => x.cps.toList) ∘ S) l = l := fun l _ => S_list l
      calc ls.map _ = ls.map id := List.map_congr_left this
        _ = ls := List.map_id ls
    rwa [e2] at this
  have hl2 := hperm.length_eq
  have h64 : (64 : Nat) < sizeLine := by decide
  have hz2 : ((ss'.map fun x => x.cps.toList).map fun l => V.str (S l)).length <= sizeLine := by rw [List.length_map, hl2]; omega
  refine ⟨.ref (s.heap.objs.size + 1), _, I.laid (t' := s.toks) (a := s.heap.objs.size + 1) (o := .lst ((ss'.map fun x => x.cps.toList).map fun l => V.str (S l))) (fun b o e => sortedAll_old e) (Nat.le_succ _) ⟨hz2, out.toList, e, of_strs h1, by simpa [seqObj] using he⟩, rfl, q _ _ (I.hok.fresh (Nat.le_succ _)) hperm (sorted_pw h3)⟩
end
end L2
namespace L2
open PySem PySem.Spec PyProof.Rows
section
variable {X : Cx}
theorem ones_of {ls : List (List Nat)} {l : List Nat} (h : ls.Perm (l.map fun c => [c])) : ∃ l' : List Nat, ls = l'.map (fun c => [c]) /\ l'.Perm l := by
  refine ⟨ls.flatten, ?_, ?_⟩
  · have hs : ∀ x ∈ ls, ∃ c, x = [c] := fun x hx => by
      obtain ⟨c, _, e⟩ := List.mem_map.mp (h.mem_iff.mp hx)
      exact ⟨c, e.symm⟩
    clear h
    induction ls with
    | nil => rfl
    | cons x ls ih =>
      obtain ⟨c, rfl⟩ := hs x List.mem_cons_self
      rw [List.flatten_cons, List.map_append, <- ih fun y hy => hs y (List.mem_cons_of_mem _ hy)]
      rfl
  · have := h.flatten
    have e : (l.map fun c => [c]).flatten = l := by
      clear h this
      induction l with
      | nil => rfl
      | cons c l ih => rw [List.map_cons, List.flatten_cons, ih]; rfl
    rwa [e] at this
theorem ones_pw {l : List Nat} (h : (l.map fun c => [c]).Pairwise fun a b => ¬ b < a) : l.Pairwise fun a b => a <= b := by
  rw [List.pairwise_map] at h
  refine h.imp fun {a b} z => ?_
  by_cases y : a <= b
  · exact y
  · exact absurd (List.cons_lt_cons_iff.mpr (.inl (by omega))) z
end
end L2
namespace L2
open PySem PySem.Spec PyProof.Rows
section
variable {X : Cx}
end
end L2
namespace L2
open PySem PySem.Spec PyProof.Rows
section
variable {prog : Program} {w : World} {A : Around} {E : Value -> Shared -> Prop} {s : Shared}
theorem nextT_item {it tp : Addr} {j : Nat} {xs : Array Value} {y : Value} {Q : Value -> Shared -> Prop} (hi : s.heap.IsTupleIter it tp j) (ht : s.heap.IsTuple tp xs) (hy : xs[j]? = some y)
    (q : ∀ h2, h2.IsTupleIter it tp (j + 1) -> Heap.SameBut it s.heap h2 -> Q y { s with heap := h2 }) : wpAny (model prog w) A (Builtin.SmallTypes.nextOf (.ref it)) Q E s := by
  obtain ⟨oi, eo, ec, ed⟩ := id hi
  obtain ⟨ot, et, _, nt, dt⟩ := ht
  unfold Builtin.SmallTypes.nextOf
  refine wpAny_bind (wpAny_callSpecial?_slot (name := Str.ofString "__next__") hi.typeIs F.slot_tuple_iterator_next (wpAny_call_entry F.slot_tuple_iterator_next hi.typeIs F.entry_tuple_iterator_next ?_ (F.args_tuple_iterator_next_1 _)))
  refine wpAny_bind (m := field (.ref it) 0) (wpAny_field eo ed (x := .ref tp) rfl ?_)
  show wpAny (model prog w) _ (if (Value.ref tp == Value.none) = true then _ else _) _ E s
  rw [if_neg (show ¬ (Value.ref tp == Value.none) = true from Bool.false_ne_true)]
  refine wpAny_bind (m := field (.ref it) 1) (wpAny_field eo ed (x := .int j 0) rfl ?_)
  refine wpAny_bind (m := seqItems? (.ref tp)) (wpAny_seqItems et dt ?_)
  simp only [Int.toNat_natCast, hy]
  refine wpAny_bind (wpAny_setField eo ed (by simp) (wpAny_pure ⟨y, rfl, wpAny_pure (q _ ⟨_, Heap.get?_update_self _ eo (Obj.isFreed_of_fields (Obj.data_mapFields ed _)), (Obj.cls_mapFields ..).trans ec, by rw [Obj.data_mapFields ed]; simp [rawInt]⟩ (Heap.SameBut.update ..))⟩))
theorem nextT_end {it tp : Addr} {j : Nat} {xs : Array Value} {Q : Value -> Shared -> Prop} (hh : A.handled = none) (hi : s.heap.IsTupleIter it tp j) (ht : s.heap.IsTuple tp xs) (hy : xs[j]? = none)
    (q : ∀ h2 e, Heap.ExtBut it s.heap h2 -> (∃ o, h2.get? e = some o /\ o.cls = .type "StopIteration") -> E (.ref e) { s with heap := h2 }) : wpAny (model prog w) A (Builtin.SmallTypes.nextOf (.ref it)) Q E s := by
  obtain ⟨oi, eo, ec, ed⟩ := id hi
  obtain ⟨ot, et, _, nt, dt⟩ := ht
  unfold Builtin.SmallTypes.nextOf
  refine wpAny_bind (wpAny_callSpecial?_slot (name := Str.ofString "__next__") hi.typeIs F.slot_tuple_iterator_next (wpAny_call_entry F.slot_tuple_iterator_next hi.typeIs F.entry_tuple_iterator_next ?_ (F.args_tuple_iterator_next_1 _)))
  refine wpAny_bind (m := field (.ref it) 0) (wpAny_field eo ed (x := .ref tp) rfl ?_)
  show wpAny (model prog w) _ (if (Value.ref tp == Value.none) = true then _ else _) _ E s
  rw [if_neg (show ¬ (Value.ref tp == Value.none) = true from Bool.false_ne_true)]
  refine wpAny_bind (m := field (.ref it) 1) (wpAny_field eo ed (x := .int j 0) rfl ?_)
  refine wpAny_bind (m := seqItems? (.ref tp)) (wpAny_seqItems et dt ?_)
  simp only [Int.toNat_natCast, hy]
  refine wpAny_bind (wpAny_rule (wpAny_bind (wpAny_setField eo ed (by simp) ?_)))
  refine wpAny_bind (m := newExc (.type "StopIteration") []) ?_
  simp only [newExc, newTuple]
  refine wpAny_bind (wpAny_newObj_type (wpAny_bind (m := firstArgMember _ _) (wpAny_of_eq (a := Value.none) (by first | rfl | (simp only [firstArgMember]; rfl)) (wpAny_newObj_type ?_ (by size_fits)))) (by size_fits))
  simp only [raiseNew]
  refine wpAny_bind (wpAny_handled ?_); first | rw [show A.in1.handled = none from hh] | rw [hh]
  exact wpAny_bind (wpAny_pure (wpAny_throw (q _ _ (((Heap.SameBut.update ..).extBut.push _).push _) ⟨_, Heap.get?_push_size _ rfl, rfl⟩)))
theorem draws_tuple (hh : A.handled = none) (it tp : Addr) (ne : tp ≠ it) (xs : Array Value) :
    Draws prog w A it [it, tp] xs.size (fun i v => xs[i]? = some v) (fun i h => h.IsTupleIter it tp i /\ h.IsTuple tp xs) where
  live := fun _ _ z => let ⟨o, e, _⟩ := z.1; ⟨o, e⟩
  frame := fun _ _ _ z k => by
    obtain ⟨⟨o, e, r⟩, o2, e2, r2⟩ := z
    exact ⟨⟨o, k it (by simp) o e, r⟩, o2, k tp (by simp) o2 e2, r2⟩
  item := fun i s Q E hi z q => nextT_item z.1 z.2 (y := xs[i]) (by simp [hi]) fun h2 z2 sb => q _ h2 s.toks (by simp [hi]) ⟨z2, z.2.extBut sb.extBut ne⟩ sb
  done := fun s Q E z q => nextT_end hh z.1 z.2 (by simp) q
theorem meets_enumT (l : Addr) (items : Array Value) (n : Nat) (dct : Option Addr) (sl : Array (Option Value)) :
    Meets (Builtin.«enumerate.__new__» ⟨[.type "enumerate", .ref l], []⟩) (fun _ R s => s.heap.get? l = some { cls := .type "tuple", dict := dct, data := .seq items n, slots := sl } /\
      R (.ok (.ret (.ref (s.heap.push { cls := .type "tuple_iterator", data := .fields #[.ref l, .int 0 0] }).objs.size)))
        { s with heap := (s.heap.push { cls := .type "tuple_iterator", data := .fields #[.ref l, .int 0 0] }).push { cls := .type "enumerate", data := .fields #[.none, .bool false, .ref s.heap.objs.size, rawInt 0, .none, .none] } }) :=
  .of_wp fun prog w A R s h => by
    obtain ⟨hp, g, d, tk, os⟩ := s; obtain ⟨hl, q⟩ := h; have hsub := sub_enumerate
    have hT : Heap.IsTuple (Shared.heap ⟨hp, g, d, tk, os⟩) l items := ⟨_, hl, rfl, n, rfl⟩
    wp_walk using AutoSeq1.wpAny_loadPart' hl
    refine wpAny_stack_any fun st => wpAny_pure ?_
    split
    · rename_i c _ _ _ _ _
      cases (c == Value.type "enumerate") <;> (wp_walk using AutoSeq1.wpAny_loadPart' hl, wpAny_pyIter_tuple hT; exact ⟨_, rfl, q⟩)
    · wp_walk using AutoSeq1.wpAny_loadPart' hl, wpAny_pyIter_tuple hT
      exact ⟨_, rfl, q⟩
theorem call_enumT {l : Addr} {items : Array Value} {Q : Value -> Shared -> Prop} (hL : s.heap.IsTuple l items)
    (h : ∀ h', IsEnum h' (s.heap.objs.size + 1) s.heap.objs.size 0 .none -> h'.IsTupleIter s.heap.objs.size l 0 -> (∀ b o, s.heap.get? b = some o -> h'.get? b = some o) -> Q (.ref (s.heap.objs.size + 1)) { s with heap := h' }) :
    wpAny (model prog w) A (call (.type "enumerate") [.ref l]) Q E s := by
  obtain ⟨⟨c, dct, dt, sl⟩, hl, hc, n, hd⟩ := hL
  cases (show c = .type "tuple" from hc)
  cases (show dt = .seq items n from hd)
  refine callType_new F.called_enumerate (by decide) (F.typeCall_enumerate_1 _) (F.newCall_enumerate_1 _) (fun ob => F.args_object_init_2 ob _) F.entry_enumerate_new (meets_enumT l items n dct sl) ⟨hl, ?_⟩
  have hz : (s.heap.push { cls := .type "tuple_iterator", data := .fields #[.ref l, .int 0 0] }).objs.size = s.heap.objs.size + 1 := Heap.size_push ..
  show _ /\ _
  rw [hz]
  have he : IsEnum ((s.heap.push { cls := .type "tuple_iterator", data := .fields #[.ref l, .int 0 0] }).push { cls := .type "enumerate", data := .fields #[.none, .bool false, .ref s.heap.objs.size, rawInt 0, .none, .none] }) (s.heap.objs.size + 1) s.heap.objs.size 0 .none := by
    have := Heap.get?_push_size (s.heap.push { cls := .type "tuple_iterator", data := .fields #[.ref l, .int 0 0] }) (o := { cls := .type "enumerate", data := .fields #[.none, .bool false, .ref s.heap.objs.size, rawInt 0, .none, .none] }) rfl
    rwa [hz] at this
  exact ⟨⟨_, he, rfl⟩, h _ he ⟨_, Heap.get?_push_of_some _ (Heap.get?_push_size _ rfl), rfl, rfl⟩ fun b o x => Heap.get?_push_of_some _ (Heap.get?_push_of_some _ x)⟩
end
noncomputable def ItET (K : PySem.W.Frag) (a : Addr) : It := ⟨fun i H => ∃ xs x, SqT K H a xs /\ xs[i]? = some x, fun i H x H' => ∃ T y, (∀ xs, SqT K H a xs -> xs[i]? = some y) /\ x = .ref T /\ H T = none /\ H' = upd H T (.tup [.int i, y]), fun i H => ∃ xs, SqT K H a xs /\ xs.length = i⟩
noncomputable def ItEL (K : PySem.W.Frag) (a : Addr) : It := ⟨fun i H => ∃ xs x, SqL K H a xs /\ xs[i]? = some x, fun i H x H' => ∃ T y, (∀ xs, SqL K H a xs -> xs[i]? = some y) /\ x = .ref T /\ H T = none /\ H' = upd H T (.tup [.int i, y]), fun i H => ∃ xs, SqL K H a xs /\ xs.length = i⟩
theorem turn_enumT {P : Program} {w : World} {K : PySem.W.Frag} {elts : List Expr} {k : Nat} {pos : Pos} (e it a : Addr) (hei : e ≠ it) (hae : a ≠ e) (hai : a ≠ it) :
    Turn P w K (.Tuple elts k pos) (ItET K a) [e, it] e (fun i h => (∃ old, IsEnum h e it i old) /\ h.IsTupleIter it a i) where
  mem := by simp
  obj := fun i h st b hb => by
    obtain ⟨⟨old, he⟩, o, ho, hc, hd⟩ := st
    rcases List.mem_cons.mp hb with z | z
    · rw [z]; exact ⟨_, he, fun v z => by cases z⟩
    · rw [List.mem_singleton.mp z]; exact ⟨o, ho, fun v z => by rw [hd] at z; cases z⟩
  keep := fun i h h' st kp => by
    obtain ⟨⟨old, he⟩, o, ho, r⟩ := st
    exact ⟨⟨old, kp e (by simp) _ he⟩, o, kp it (by simp) o ho, r⟩
  item := by
    intro X hP hw hK hc i pins s σ H E I hf st hg
    subst hP hw hK
    obtain ⟨st1, st2⟩ := st
    obtain ⟨xs, x, hq, hx⟩ := hg
    obtain ⟨its, rv, p, hz⟩ := I.tuple hq
    obtain ⟨u0, hu, ru⟩ := rv.get hx
    have D := draws_tuple (prog := X.prog) (w := X.w) (A := X.A.in1) (I.ok.hd hc) it a hai its.toArray
    have W := WalksT.enumerateD D e hei (by simp; exact ⟨hei, Ne.symm hae⟩) (by simp)
    have hil : i < its.toArray.size := by rw [List.size_toArray]; exact (List.getElem?_eq_some_iff.mp hu).1
    refine W.item i s _ _ hil ⟨st1, st2, p⟩ fun T vals h' tk hPt hT hTup hMid hk => ⟨_, rfl, ?_⟩
    refine W.go elts k pos i T { s with heap := h', toks := tk } _ _ hMid fun h2 hst2 hk2 => ?_
    obtain ⟨tt, x2, hx2, rfl⟩ := hPt
    have ex : x2 = u0 := by
      rw [List.getElem?_toArray] at hx2
      exact Option.some.inj (hx2.symm.trans hu)
    subst ex
    have hTw : T ∉ [e, it] := W.apart i T h' hMid
    have hTup2 : h2.IsTuple T #[.int i tt, x2] := by
      obtain ⟨o, ho, r⟩ := hTup
      exact ⟨o, hk2 T o hTw ho, r⟩
    refine ⟨.ref T, upd H T (.tup [.int i, x]), ?_, rfl, ⟨T, x, fun ys hy => by rw [I.tuple_inj hy hq]; exact hx, rfl, I.hok.fresh hT, rfl⟩, ⟨hst2.1, hst2.2.1⟩, fun b hb => ?_⟩
    · refine I.turnLaid (t' := tk) (h' := h2) (fun b o hb y => hk2 b o hb (hk b o hb y)) hf hT ?_
      exact ⟨by show 2 <= sizeLine; decide, [.int i tt, x2], .cons ⟨tt, rfl⟩ (.cons ru .nil), hTup2⟩
    · rw [upd_ne (fun z : b = T => hTw (z ▸ hb))]; exact (hf b hb).1
  done := by
    intro X hP hw hK hc i pins s σ H E I hf st hg
    subst hP hw hK
    obtain ⟨st1, st2⟩ := st
    obtain ⟨xs, hq, hx⟩ := hg
    obtain ⟨its, rv, p, hz⟩ := I.tuple hq
    have hl := rv.length
    have D := draws_tuple (prog := X.prog) (w := X.w) (A := X.A.in1) (I.ok.hd hc) it a hai its.toArray
    have W := WalksT.enumerateD D e hei (by simp; exact ⟨hei, Ne.symm hae⟩) (by simp)
    refine W.done s _ _ ?_ fun h' tk hk => ⟨rfl, I.turnedL (t' := tk) hk hf⟩
    have e1 : its.toArray.size = i := by rw [List.size_toArray]; omega
    rw [e1]
    exact ⟨st1, st2, p⟩
  self := fun _ _ s _ _ st h => by
    obtain ⟨⟨old, he⟩, _⟩ := st
    exact wpAny_pyIter_enum he h
theorem turn_enumL {P : Program} {w : World} {K : PySem.W.Frag} {elts : List Expr} {k : Nat} {pos : Pos} (e it a : Addr) (hei : e ≠ it) (hae : a ≠ e) (hai : a ≠ it) :
    Turn P w K (.Tuple elts k pos) (ItEL K a) [e, it] e (fun i h => (∃ old, IsEnum h e it i old) /\ h.IsListIter it a i) where
  mem := by simp
  obj := fun i h st b hb => by
    obtain ⟨⟨old, he⟩, o, ho, hc, hd⟩ := st
    rcases List.mem_cons.mp hb with z | z
    · rw [z]; exact ⟨_, he, fun v z => by cases z⟩
    · rw [List.mem_singleton.mp z]; exact ⟨o, ho, fun v z => by rw [hd] at z; cases z⟩
  keep := fun i h h' st kp => by
    obtain ⟨⟨old, he⟩, o, ho, r⟩ := st
    exact ⟨⟨old, kp e (by simp) _ he⟩, o, kp it (by simp) o ho, r⟩
  item := by
    intro X hP hw hK hc i pins s σ H E I hf st hg
    subst hP hw hK
    obtain ⟨st1, st2⟩ := st
    obtain ⟨xs, x, hq, hx⟩ := hg
    obtain ⟨its, rv, p, hz⟩ := I.list hq
    obtain ⟨u0, hu, ru⟩ := rv.get hx
    have D := Draws.list (prog := X.prog) (w := X.w) (A := X.A.in1) (I.ok.hd hc) it a hai its.toArray
    have W := WalksT.enumerateD D e hei (by simp; exact ⟨hei, Ne.symm hae⟩) (by simp)
    have hil : i < its.toArray.size := by rw [List.size_toArray]; exact (List.getElem?_eq_some_iff.mp hu).1
    refine W.item i s _ _ hil ⟨st1, st2, p.isList⟩ fun T vals h' tk hPt hT hTup hMid hk => ⟨_, rfl, ?_⟩
    refine W.go elts k pos i T { s with heap := h', toks := tk } _ _ hMid fun h2 hst2 hk2 => ?_
    obtain ⟨tt, x2, hx2, rfl⟩ := hPt
    have ex : x2 = u0 := by
      rw [List.getElem?_toArray] at hx2
      exact Option.some.inj (hx2.symm.trans hu)
    subst ex
    have hTw : T ∉ [e, it] := W.apart i T h' hMid
    have hTup2 : h2.IsTuple T #[.int i tt, x2] := by
      obtain ⟨o, ho, r⟩ := hTup
      exact ⟨o, hk2 T o hTw ho, r⟩
    refine ⟨.ref T, upd H T (.tup [.int i, x]), ?_, rfl, ⟨T, x, fun ys hy => by rw [I.list_inj hy hq]; exact hx, rfl, I.hok.fresh hT, rfl⟩, ⟨hst2.1, hst2.2.1⟩, fun b hb => ?_⟩
    · refine I.turnLaid (t' := tk) (h' := h2) (fun b o hb y => hk2 b o hb (hk b o hb y)) hf hT ?_
      exact ⟨by show 2 <= sizeLine; decide, [.int i tt, x2], .cons ⟨tt, rfl⟩ (.cons ru .nil), hTup2⟩
    · rw [upd_ne (fun z : b = T => hTw (z ▸ hb))]; exact (hf b hb).1
  done := by
    intro X hP hw hK hc i pins s σ H E I hf st hg
    subst hP hw hK
    obtain ⟨st1, st2⟩ := st
    obtain ⟨xs, hq, hx⟩ := hg
    obtain ⟨its, rv, p, hz⟩ := I.list hq
    have hl := rv.length
    have D := Draws.list (prog := X.prog) (w := X.w) (A := X.A.in1) (I.ok.hd hc) it a hai its.toArray
    have W := WalksT.enumerateD D e hei (by simp; exact ⟨hei, Ne.symm hae⟩) (by simp)
    refine W.done s _ _ ?_ fun h' tk hk => ⟨rfl, I.turnedL (t' := tk) hk hf⟩
    have e1 : its.toArray.size = i := by rw [List.size_toArray]; omega
    rw [e1]
    exact ⟨st1, st2, p.isList⟩
  self := fun _ _ s _ _ st h => by
    obtain ⟨⟨old, he⟩, _⟩ := st
    exact wpAny_pyIter_enum he h
noncomputable def iEnumT (K : PySem.W.Frag) (ta : TA) : TI := fun σ H R => ta σ H fun vs H1 => ∃ a, vs = [.ref a] /\ (∃ xs, SqT K H1 a xs) /\ R (ItET K a) H1
noncomputable def iEnumL (K : PySem.W.Frag) (ta : TA) : TI := fun σ H R => ta σ H fun vs H1 => ∃ a, vs = [.ref a] /\ (∃ xs, SqL K H1 a xs) /\ R (ItEL K a) H1
theorem pi_enumT {X : Cx} (K : PySem.W.Frag) (hK : X.K = K) {elts : List Expr} {k : Nat} {pos' : Pos} {a : Expr} {ta : TA} {p pos : Pos} (hg : Gl X "enumerate") (hm : X.mg "enumerate" = none) (ha : PA X [a] ta) (hs : starEach [a] X.env = [(false, eval a X.env)] := by rfl) : PI X (.Tuple elts k pos') (.Call (.Name "enumerate" p) [a] [] pos) (iEnumT K ta) := by
  subst hK
  intro pins s σ H R I h
  refine Call_ (ld_blt I hg hm boot_enumerate (PyProof.Rows.callWith_type1 (thn (ha pos pins s σ H _ I h) fun us s1 ⟨vs, H1, I1, r1, q1⟩ => ?_) hs rfl))
  obtain ⟨b, rfl, ⟨xs, hq⟩, q⟩ := q1
  obtain ⟨u, rfl, ru⟩ := vals1 r1
  cases ru
  obtain ⟨its, rv, pl, hz⟩ := I1.tuple hq
  obtain ⟨ob, eb, _⟩ := id pl
  have hlt : b < s1.heap.objs.size := Heap.lt_size eb
  refine call_enumT pl fun h' he hit hk => wpAny_pyIter_enum he ?_
  refine ⟨s1.heap.objs.size + 1, [s1.heap.objs.size + 1, s1.heap.objs.size], _, _, H1, rfl, I1.kept (t' := s1.toks) hk, turn_enumT _ _ b (Nat.succ_ne_self _) (Nat.ne_of_lt (Nat.lt_succ_of_lt hlt)) (Nat.ne_of_lt hlt), ⟨⟨_, he⟩, hit⟩, fun c hb => ?_, q⟩
  have hb2 : s1.heap.objs.size <= c := by
    rcases List.mem_cons.mp hb with z | z
    · rw [z]; exact Nat.le_succ _
    · rw [List.mem_singleton.mp z]; exact Nat.le_refl _
  exact I1.fpOk hb2 (I1.hok.fresh hb2)
theorem pi_enumL {X : Cx} (K : PySem.W.Frag) (hK : X.K = K) {elts : List Expr} {k : Nat} {pos' : Pos} {a : Expr} {ta : TA} {p pos : Pos} (hg : Gl X "enumerate") (hm : X.mg "enumerate" = none) (ha : PA X [a] ta) (hs : starEach [a] X.env = [(false, eval a X.env)] := by rfl) : PI X (.Tuple elts k pos') (.Call (.Name "enumerate" p) [a] [] pos) (iEnumL K ta) := by
  subst hK
  intro pins s σ H R I h
  refine Call_ (ld_blt I hg hm boot_enumerate (PyProof.Rows.callWith_type1 (thn (ha pos pins s σ H _ I h) fun us s1 ⟨vs, H1, I1, r1, q1⟩ => ?_) hs rfl))
  obtain ⟨b, rfl, ⟨xs, hq⟩, q⟩ := q1
  obtain ⟨u, rfl, ru⟩ := vals1 r1
  cases ru
  obtain ⟨its, rv, pl, hz⟩ := I1.list hq
  obtain ⟨ob, eb, _⟩ := id pl.isList
  have hlt : b < s1.heap.objs.size := Heap.lt_size eb
  refine call_enumerate_list pl.isList fun h' he hit hsz hk => wpAny_pyIter_enum he ?_
  refine ⟨s1.heap.objs.size + 1, [s1.heap.objs.size + 1, s1.heap.objs.size], _, _, H1, rfl, I1.kept (t' := s1.toks) hk, turn_enumL _ _ b (Nat.succ_ne_self _) (Nat.ne_of_lt (Nat.lt_succ_of_lt hlt)) (Nat.ne_of_lt hlt), ⟨⟨_, he⟩, hit⟩, fun c hb => ?_, q⟩
  have hb2 : s1.heap.objs.size <= c := by
    rcases List.mem_cons.mp hb with z | z
    · rw [z]; exact Nat.le_succ _
    · rw [List.mem_singleton.mp z]; exact Nat.le_refl _
  exact I1.fpOk hb2 (I1.hok.fresh hb2)
theorem for_enumT {K : PySem.W.Frag} {a : Addr} {xs : List V} {g : TG} {tb : TS} {D : Ends} {σ : St} {H : Hp} (Pv : Nat -> St -> Hp -> Prop) (h0 : Pv 0 σ H) (hl : ∀ i σ H, i <= xs.length -> Pv i σ H -> SqT K H a xs)
    (hs : ∀ i x σ H T, xs[i]? = some x -> Pv i σ H -> H T = none -> g (.ref T) σ (upd H T (.tup [.int i, x])) fun σ2 H2 => tb { D with nx := Pv (i + 1), ct := Pv (i + 1), bk := D.nx } σ2 H2) (hd : ∀ σ H, Pv xs.length σ H -> D.nx σ H) :
    ∃ W : Nat -> Nat -> St -> Hp -> Prop, (∃ m, W 0 m σ H) /\ ∀ i m σ H, W i m σ H ->
      ((ItET K a).stop i H /\ D.nx σ H) \/ ((ItET K a).go i H /\ ∃ N : St -> Hp -> Prop, (∀ σ' H', N σ' H' -> ∃ m', m' < m /\ W (i + 1) m' σ' H') /\ ∀ x H', (ItET K a).yld i H x H' -> g x σ H' fun σ2 H2 => tb { D with nx := N, ct := N, bk := D.nx } σ2 H2) := by
  refine ⟨fun i m σ H => m = xs.length - i /\ i <= xs.length /\ Pv i σ H, ⟨xs.length, by simp, Nat.zero_le _, h0⟩, ?_⟩
  rintro i m σ H ⟨rfl, hi, p⟩
  have hq := hl i σ H hi p
  by_cases hlt : i < xs.length
  · refine .inr ⟨⟨xs, xs[i], hq, by simp [hlt]⟩, Pv (i + 1), fun σ' H' p' => ⟨xs.length - (i + 1), by omega, rfl, hlt, p'⟩, fun x H' y => ?_⟩
    obtain ⟨T, z, hz, rfl, hn, rfl⟩ := y
    exact hs i z σ _ T (hz xs hq) p hn
  · have e : i = xs.length := by omega
    subst e
    exact .inl ⟨⟨xs, hq, rfl⟩, hd σ H p⟩
theorem for_enumL {K : PySem.W.Frag} {a : Addr} {xs : List V} {g : TG} {tb : TS} {D : Ends} {σ : St} {H : Hp} (Pv : Nat -> St -> Hp -> Prop) (h0 : Pv 0 σ H) (hl : ∀ i σ H, i <= xs.length -> Pv i σ H -> SqL K H a xs)
    (hs : ∀ i x σ H T, xs[i]? = some x -> Pv i σ H -> H T = none -> g (.ref T) σ (upd H T (.tup [.int i, x])) fun σ2 H2 => tb { D with nx := Pv (i + 1), ct := Pv (i + 1), bk := D.nx } σ2 H2) (hd : ∀ σ H, Pv xs.length σ H -> D.nx σ H) :
    ∃ W : Nat -> Nat -> St -> Hp -> Prop, (∃ m, W 0 m σ H) /\ ∀ i m σ H, W i m σ H ->
      ((ItEL K a).stop i H /\ D.nx σ H) \/ ((ItEL K a).go i H /\ ∃ N : St -> Hp -> Prop, (∀ σ' H', N σ' H' -> ∃ m', m' < m /\ W (i + 1) m' σ' H') /\ ∀ x H', (ItEL K a).yld i H x H' -> g x σ H' fun σ2 H2 => tb { D with nx := N, ct := N, bk := D.nx } σ2 H2) := by
  refine ⟨fun i m σ H => m = xs.length - i /\ i <= xs.length /\ Pv i σ H, ⟨xs.length, by simp, Nat.zero_le _, h0⟩, ?_⟩
  rintro i m σ H ⟨rfl, hi, p⟩
  have hq := hl i σ H hi p
  by_cases hlt : i < xs.length
  · refine .inr ⟨⟨xs, xs[i], hq, by simp [hlt]⟩, Pv (i + 1), fun σ' H' p' => ⟨xs.length - (i + 1), by omega, rfl, hlt, p'⟩, fun x H' y => ?_⟩
    obtain ⟨T, z, hz, rfl, hn, rfl⟩ := y
    exact hs i z σ _ T (hz xs hq) p hn
  · have e : i = xs.length := by omega
    subst e
    exact .inl ⟨⟨xs, hq, rfl⟩, hd σ H p⟩
theorem comp_enum {l : List Nat} {σc : St} {g : TG} {tc : TT} {te : TE} {Q : VK} {H1 : Hp} (Pv : Nat -> List V -> Hp -> Prop) (hn : l.length < sizeLine) (h0 : Pv 0 [] H1)
    (hs : ∀ (i c : Nat) (acc : List V) (H : Hp) (T : Addr) (Nx : List V -> Hp -> Prop), l[i]? = some c -> acc.length <= i -> Pv i acc H -> H T = none -> (∀ acc' H', acc'.length <= i + 1 -> Pv (i + 1) acc' H' -> Nx acc' H') ->
      g (.ref T) σc (upd H T (.tup [.int i, .str (S [c])])) fun σ2 H2 => Wk σc σ2 /\ tc σ2 H2 fun b H3 => if b = true then te σ2 H3 fun v H4 => Nx (acc ++ [v]) H4 else Nx acc H3)
    (hd : ∀ acc H D, acc.length <= l.length -> Pv l.length acc H -> H D = none -> Q (.ref D) (upd H D (.lst acc))) : CompW (ItE l) σc g tc te Q H1 := by
  refine ⟨fun i m acc H => m = l.length - i /\ i <= l.length /\ acc.length <= i /\ Pv i acc H, ⟨l.length, by simp, Nat.zero_le _, Nat.le_refl _, h0⟩, ?_⟩
  rintro i m acc H ⟨rfl, hi, hl, p⟩
  refine ⟨by omega, ?_⟩
  by_cases hlt : i < l.length
  · refine .inr ⟨hlt, fun x H' y => ?_⟩
    obtain ⟨T, c, hc, rfl, hT, rfl⟩ := y
    exact hs i c acc _ T (fun acc' H' => ∃ m', m' < l.length - i /\ (m' = l.length - (i + 1) /\ i + 1 <= l.length /\ acc'.length <= i + 1 /\ Pv (i + 1) acc' H')) hc hl p hT fun acc' H' h1 h2 => ⟨l.length - (i + 1), by omega, rfl, hlt, h1, h2⟩
  · have e : i = l.length := by omega
    subst e
    exact .inl ⟨Nat.le_refl _, fun D hD => hd acc H D hl p hD⟩
section
variable {X : Cx}
noncomputable def rListAny (K : PySem.W.Frag) : List V -> Hp -> VK -> Prop := fun xs H Q => (∃ l : List Nat, xs = [.str (S l)] /\ l.length <= sizeLine /\ ∀ p, H p = none -> Q (.ref p) (upd H p (.lst (sgs l)))) \/ rListOf K xs H Q
theorem call_listAny (K : PySem.W.Frag) (h : X.K = K) (hc : X.calm = true) : CallR X (.type "list") (rListAny K) := by
  intro pins s σ H xs us Q I r q
  rcases q with q | q
  · exact call_listS hc pins s σ H xs us Q I r q
  · exact call_list_ofK K h pins s σ H xs us Q I r q
theorem call_isList (K : PySem.W.Frag) (h : X.K = K) : CallR X (.builtin "isinstance") (fun xs H Q => ∃ p ys, xs = [.ref p, .ty "list"] /\ H p = some (.lst ys) /\ Q (.bl true) H) := by
  subst h
  intro pins s σ H xs us Q I r h
  obtain ⟨p, ys, rfl, hq, q⟩ := h
  obtain ⟨u, w', rfl, r1, r2⟩ := vals2 r
  cases (show w' = Value.type "list" from r2)
  exact isinst_ok I r1 (.lst hq) (by unfold PySem.W.kitOne; rw [if_pos (by decide)]) fun tk => ⟨.bl true, H, I.tok _, rfl, q⟩
end
end L2
namespace L2
open PySem PySem.Spec PyProof.Rows
section
variable {X : Cx}
noncomputable def rTupOf (K : PySem.W.Frag) : List V -> Hp -> VK -> Prop := fun xs H Q => ∃ p ys, xs = [.ref p] /\ ((SqL K H p ys /\ ∀ l, H l = none -> Q (.ref l) (upd H l (.tup ys))) \/ (SqT K H p ys /\ Q (.ref p) H))
theorem call_tuple_ofK (K : PySem.W.Frag) (h : X.K = K) : CallR X (.type "tuple") (rTupOf K) := by subst h; exact call_tuple_of
end
end L2
namespace L2
open PySem PySem.Spec PyProof.Rows
theorem comp_tup {K : PySem.W.Frag} {a : Addr} {xs : List V} {σc : St} {g : TG} {tc : TT} {te : TE} {Q : VK} {H1 : Hp} (Pv : Nat -> List V -> Hp -> Prop) (hn : xs.length < sizeLine) (hl : ∀ i acc H, Pv i acc H -> SqT K H a xs) (h0 : Pv 0 [] H1)
    (hs : ∀ (i : Nat) (x : V) (acc : List V) (H : Hp) (Nx : List V -> Hp -> Prop), i < xs.length -> xs[i]? = some x -> acc.length <= i -> Pv i acc H -> (∀ acc' H', acc'.length <= i + 1 -> Pv (i + 1) acc' H' -> Nx acc' H') ->
      g x σc H fun σ2 H2 => Wk σc σ2 /\ tc σ2 H2 fun b H3 => if b = true then te σ2 H3 fun v H4 => Nx (acc ++ [v]) H4 else Nx acc H3)
    (hd : ∀ acc H D, acc.length <= xs.length -> Pv xs.length acc H -> H D = none -> Q (.ref D) (upd H D (.lst acc))) : CompW (Itt K a) σc g tc te Q H1 :=
  comp_by (xs := fun i x => xs[i]? = some x) Pv hn (fun i acc H h p => ⟨xs, xs[i], hl i acc H p, by simp [h]⟩) (fun acc H p => ⟨xs, hl _ acc H p, Nat.le_refl _⟩) (fun i acc H x H' h p y => ⟨y.1, y.2 xs (hl i acc H p)⟩) h0 hs hd
theorem inV_two (l a b : Nat) : inV (.str (S [l])) [.str (S [a]), .str (S [b])] = (decide (l = a) || decide (l = b)) := by
  have key : ∀ c : Nat, eqV (.str (S [c])) (.str (S [l])) = decide (l = c) := fun c => by
    show decide (S [c] = S [l]) = _
    refine decide_eq_decide.mpr ⟨fun z => ?_, fun z => by rw [z]⟩
    have := congrArg (fun x : Str => x.cps.toList) z
    simpa [S, eq_comm] using this
  unfold inV
  rw [List.any_cons, List.any_cons, List.any_nil, key, key, Bool.or_false]
theorem inV_sgs (e : Nat) (l : List Nat) : inV (.str (S [e])) (sgs l) = decide (e ∈ l) := by
  have key : ∀ c : Nat, eqV (.str (S [c])) (.str (S [e])) = decide (e = c) := fun c => by
    show decide (S [c] = S [e]) = _
    refine decide_eq_decide.mpr ⟨fun z => ?_, fun z => by rw [z]⟩
    have := congrArg (fun x : Str => x.cps.toList) z
    simpa [S, eq_comm] using this
  unfold inV sgs
  induction l with
  | nil => rfl
  | cons c l ih =>
    rw [List.map_cons, List.any_cons, ih, key]
    by_cases z : e = c <;> simp [z]
theorem flat_sgs (l : List Nat) : (sgs l).all flatV = true := by
  rw [List.all_eq_true]; intro v hv
  obtain ⟨d, _, rfl⟩ := List.mem_map.mp hv
  rfl
noncomputable def TSame (H H' : Hp) : Prop := ∀ c xs, H c = some (.tup xs) -> H' c = some (.tup xs)
theorem TSame.trans {H H1 H2 : Hp} (a : TSame H H1) (b : TSame H1 H2) : TSame H H2 := fun c xs h => b c xs (a c xs h)
theorem TSame.of {H H' : Hp} (s : Same H H') : TSame H H' := fun c xs h => s c _ h
theorem TSame.updL {H : Hp} {p : Addr} {ys : List V} {o : HO} (h : H p = some (.lst ys)) : TSame H (upd H p o) := fun c xs e => by
  rw [upd_ne (fun z => by rw [z, h] at e; cases e)]; exact e
theorem TSame.updN {H : Hp} {p : Addr} {o : HO} (h : H p = none) : TSame H (upd H p o) := fun c xs e => by
  rw [upd_ne (fun z => by rw [z, h] at e; cases e)]; exact e
end L2
namespace L2
open PySem PySem.Spec PyProof.Rows
section
variable {prog : Program} {w : World} {A : Around} {E : Value -> Shared -> Prop} {s : Shared}
noncomputable def PairAt (h : Heap) (v : Value) (n : Int × Int) : Prop := ∃ x ox t1 t2 m, v = .ref x /\ h.get? x = some ox /\ ox.cls = .type "tuple" /\ ox.data = .seq #[.int n.1 t1, .int n.2 t2] m
noncomputable def PairsAt (h : Heap) : List Value -> List (Int × Int) -> Prop
  | [], [] => True
  | v :: vs, n :: ns => PairAt h v n /\ PairsAt h vs ns
  | _, _ => False
end
section
variable {X : Cx}
noncomputable def PrsV (K : PySem.W.Frag) (H : Hp) : List V -> List (Int × Int) -> Prop
  | [], [] => True
  | v :: vs, n :: ns => (∃ t, v = .ref t /\ SqT K H t [.int n.1, .int n.2]) /\ PrsV K H vs ns
  | _, _ => False
end
end L2
namespace L2
open PySem PySem.Spec PyProof.Rows
section
variable {prog : Program} {w : World} {A : Around} {E : Value -> Shared -> Prop} {s : Shared}
noncomputable def TupAt (h : Heap) (k : Nat) (v : Value) (ns : List Int) : Prop := ∃ x ox us m, v = .ref x /\ h.get? x = some ox /\ ox.cls = .type "tuple" /\ ox.data = .seq us m /\ IntsAre us.toList ns /\ ns.length = k + 1
noncomputable def TupsAt (h : Heap) (k : Nat) : List Value -> List (List Int) -> Prop
  | [], [] => True
  | v :: vs, n :: ns => TupAt h k v n /\ TupsAt h k vs ns
  | _, _ => False
end
section
variable {X : Cx}
noncomputable def TpsV (K : PySem.W.Frag) (H : Hp) (k : Nat) : List V -> List (List Int) -> Prop
  | [], [] => True
  | v :: vs, n :: ns => (∃ t, v = .ref t /\ SqT K H t (n.map V.int) /\ n.length = k + 1) /\ TpsV K H k vs ns
  | _, _ => False
end
end L2
namespace HT
open PySem PySem.Spec PyProof.Rows
section
variable {prog : Program} {w : World} {A : Around} {E : Value -> Shared -> Prop} {s : Shared}
end
end HT
namespace L2
open PySem PySem.Spec PyProof.Rows
section
variable {X : Cx} {e st : Expr} {te : TE} {ts : TO} {pos p2 : Pos}
end
end L2
namespace L2
open PySem PySem.Spec PyProof.Rows
section
variable {κ : Type} [DecidableEq κ]
noncomputable def valV (kvs : List (κ × V)) (k : κ) : Option V := (kvs.find? fun kv => decide (kv.1 = k)).map (·.2)
noncomputable def putK (kvs : List (κ × V)) (k : κ) (v : V) : List (κ × V) :=
  if (kvs.any fun kv => decide (kv.1 = k)) = true then kvs.map (fun kv => if kv.1 = k then (kv.1, v) else kv) else kvs ++ [(k, v)]
noncomputable def dropK (kvs : List (κ × V)) (k : κ) : List (κ × V) := kvs.filter fun kv => decide (kv.1 ≠ k)
theorem valV_pos {p : κ × V} {r : List (κ × V)} {k : κ} (e : p.1 = k) : valV (p :: r) k = some p.2 := by simp [valV, List.find?_cons, e]
theorem valV_neg {p : κ × V} {r : List (κ × V)} {k : κ} (e : ¬ p.1 = k) : valV (p :: r) k = valV r k := by simp [valV, List.find?_cons, e]
theorem valV_any (k : κ) : ∀ kvs : List (κ × V), (kvs.any fun kv => decide (kv.1 = k)) = (valV kvs k).isSome
  | [] => rfl
  | p :: r => by
    rw [List.any_cons]
    by_cases e : p.1 = k
    · simp only [valV_pos e, decide_eq_true e, Bool.true_or, Option.isSome_some]
    · rw [valV_neg e, decide_eq_false e, Bool.false_or]; exact valV_any k r
theorem length_putK (kvs : List (κ × V)) (k : κ) (v : V) : (putK kvs k v).length <= kvs.length + 1 := by
  unfold putK
  split
  · rw [List.length_map]; omega
  · rw [List.length_append, List.length_cons, List.length_nil]; omega
theorem putK_new {kvs : List (κ × V)} {k : κ} (v : V) (h : valV kvs k = none) : putK kvs k v = kvs ++ [(k, v)] := by
  unfold putK
  rw [valV_any, h]
  exact if_neg (by decide)
theorem RelO.isSome_eq {o : Option V} {u : Option Value} (r : RelO o u) : o.isSome = u.isSome := by
  cases o with
  | none => cases u with
    | none => rfl
    | some _ => exact (show False from r).elim
  | some _ => cases u with
    | none => exact (show False from r).elim
    | some _ => rfl
theorem KV.val {kvs : List (κ × V)} {vs : List (κ × Value)} (r : KV kvs vs) (k : κ) : RelO (valV kvs k) (valueAt vs k) := by
  unfold KV at r
  induction r with
  | nil => exact True.intro
  | @cons p q ps qs h t ih =>
    obtain ⟨h1, h2⟩ := h
    by_cases e : p.1 = k
    · have e' : q.1 = k := h1.symm.trans e
      have b : valueAt (q :: qs) k = some q.2 := by simp [valueAt, List.find?_cons, e']
      rw [valV_pos e, b]; exact h2
    · have e' : ¬ q.1 = k := fun z => e (h1.trans z)
      have b : valueAt (q :: qs) k = valueAt qs k := by simp [valueAt, List.find?_cons, e']
      rw [valV_neg e, b]; exact ih
theorem KV.any {kvs : List (κ × V)} {vs : List (κ × Value)} (r : KV kvs vs) (k : κ) : (kvs.any fun kv => decide (kv.1 = k)) = vs.any fun kv => decide (kv.1 = k) := by
  unfold KV at r
  induction r with
  | nil => rfl
  | cons h t ih => rw [List.any_cons, List.any_cons, ih, h.1]
theorem KV.repl {kvs : List (κ × V)} {vs : List (κ × Value)} (r : KV kvs vs) (k : κ) {y : V} {u : Value} (ry : RelV y u) :
    KV (kvs.map fun kv => if kv.1 = k then (kv.1, y) else kv) (vs.map fun kv => if kv.1 = k then (kv.1, u) else kv) := by
  unfold KV at r ⊢
  induction r with
  | nil => exact .nil
  | @cons p q ps qs h t ih =>
    rw [List.map_cons, List.map_cons]
    refine .cons ?_ ih
    obtain ⟨h1, h2⟩ := h
    by_cases e : p.1 = k
    · rw [if_pos e, if_pos (h1.symm.trans e)]; exact ⟨h1, ry⟩
    · rw [if_neg e, if_neg (fun z => e (h1.trans z))]; exact ⟨h1, h2⟩
theorem KV.put {kvs : List (κ × V)} {vs : List (κ × Value)} (r : KV kvs vs) (k : κ) {y : V} {u : Value} (ry : RelV y u) : KV (putK kvs k y) (stored vs k u) := by
  unfold putK stored
  rw [r.any k]
  by_cases e : (vs.any fun kv => decide (kv.1 = k)) = true
  · rw [if_pos e, if_pos e]; exact r.repl k ry
  · rw [if_neg e, if_neg e]; exact Paired.snoc r ⟨rfl, ry⟩
theorem KV.keys {kvs : List (κ × V)} {vs : List (κ × Value)} (r : KV kvs vs) : kvs.map (·.1) = vs.map (·.1) := by
  unfold KV at r
  induction r with
  | nil => rfl
  | cons h t ih => rw [List.map_cons, List.map_cons, ih, h.1]
theorem KV.length {kvs : List (κ × V)} {vs : List (κ × Value)} (r : KV kvs vs) : kvs.length = vs.length := Paired.length r
end
theorem kV_is {P : Program} {w : World} {k : Key} {u : Value} (r : RelV (kV k) u) : (mixKind P w).is k u = true := by
  cases k with
  | inl i => obtain ⟨t, e⟩ := (show ∃ t, u = Value.int i t from r); subst e; exact mixKind_int P w i t
  | inr x => obtain ⟨t, e⟩ := (show ∃ t, u = Value.str x t from r); subst e; exact mixKind_str P w x t
theorem items_are {P : Program} {w : World} : ∀ {ks : List Key} {us : List Value}, Vals (ks.map kV) us -> ItemsAre (mixKind P w) ks us
  | [], _, r => by rw [List.map_nil] at r; cases r; exact .nil
  | k :: ks, _, r => by
    rw [List.map_cons] at r
    cases r with
    | cons h t => exact .cons (kV_is h) (items_are t)
noncomputable abbrev KT (H : Hp) : List (List Key × V) -> List (List Key × Addr × Value) -> Prop := Paired fun p q => p.1 = q.1 /\ H q.2.1 = some (.tup (p.1.map kV)) /\ RelV p.2 q.2.2
theorem KT.val {H : Hp} {kvs : List (List Key × V)} {xs : List (List Key × Addr × Value)} (r : KT H kvs xs) (k : List Key) : RelO (valV kvs k) ((atKey xs k).map (·.2)) := by
  induction r with
  | nil => exact True.intro
  | @cons p q ps qs h t ih =>
    obtain ⟨h1, _, h2⟩ := h
    by_cases e : p.1 = k
    · have e' : q.1 = k := h1.symm.trans e
      have b : atKey (q :: qs) k = some q.2 := by simp [atKey, List.find?_cons, e']
      rw [valV_pos e, b]; exact h2
    · have e' : ¬ q.1 = k := fun z => e (h1.trans z)
      have b : atKey (q :: qs) k = atKey qs k := by simp [atKey, List.find?_cons, e']
      rw [valV_neg e, b]; exact ih
theorem KT.repl {H : Hp} {kvs : List (List Key × V)} {xs : List (List Key × Addr × Value)} (r : KT H kvs xs) (k : List Key) {y : V} {u : Value} (ry : RelV y u) :
    KT H (kvs.map fun kv => if kv.1 = k then (kv.1, y) else kv) (xs.map (putAt k u)) := by
  induction r with
  | nil => exact .nil
  | @cons p q ps qs h t ih =>
    rw [List.map_cons, List.map_cons]
    refine .cons ?_ ih
    obtain ⟨h1, h2, h3⟩ := h
    unfold putAt
    by_cases e : p.1 = k
    · rw [if_pos e, if_pos (h1.symm.trans e)]; exact ⟨h1, h2, ry⟩
    · rw [if_neg e, if_neg (fun z => e (h1.trans z))]; exact ⟨h1, h2, h3⟩
theorem KT.put {H : Hp} {kvs : List (List Key × V)} {xs : List (List Key × Addr × Value)} (r : KT H kvs xs) (k : List Key) {b : Addr} {y : V} {u : Value} (hb : H b = some (.tup (k.map kV))) (ry : RelV y u) :
    KT H (putK kvs k y) (storedH xs k b u) := by
  have e : (kvs.any fun kv => decide (kv.1 = k)) = (atKey xs k).isSome := by
    rw [valV_any, (r.val k).isSome_eq, Option.isSome_map]
  unfold putK storedH
  rw [e]
  by_cases q : (atKey xs k).isSome = true
  · rw [if_pos q, if_pos q]; exact r.repl k ry
  · rw [if_neg q, if_neg q]; exact Paired.snoc r ⟨rfl, hb, ry⟩
theorem KT.keeps {H H' : Hp} {kvs : List (List Key × V)} {xs : List (List Key × Addr × Value)} (r : KT H kvs xs) (ht : ∀ b ys, H b = some (.tup ys) -> H' b = some (.tup ys)) : KT H' kvs xs :=
  Paired.mapP r fun _ _ z => ⟨z.1, ht _ _ z.2.1, z.2.2⟩
section
variable {P : Program} {w : World} {H : Hp} {h : Heap} {a : Addr}
theorem rd_of {u : HO} (ok : HOk P w H h) (e : Rd H a u) : ObjOk P w H h a u := e.ok ok
theorem dk_rd {kvs : List (Key × V)} (ok : HOk P w H h) (e : Rd H a (.dK kvs)) : kvs.length <= sizeLine /\ (a == sysModules) = false /\ ∃ vs, KV kvs vs /\ h.DictOf (mixKind P w) a vs :=
  show ObjOk P w H h a (.dK kvs) from rd_of ok e
theorem dk_of {kvs : List (Key × V)} (ok : HOk P w H h) (e : H a = some (.dK kvs)) : kvs.length <= sizeLine /\ (a == sysModules) = false /\ ∃ vs, KV kvs vs /\ h.DictOf (mixKind P w) a vs := dk_rd ok (.inl e)
theorem key_of {ks : List Key} (ok : HOk P w H h) (e : H a = some (.tup (ks.map kV))) : (tupleKind (mixKind P w)).is h ks a := by
  obtain ⟨_, its, r, o, h1, h2, n, h3⟩ := (show ObjOk P w H h a (.tup (ks.map kV)) from ok a _ e)
  exact ⟨o, its.toArray, n, h1, h2, h3, by simpa using items_are r⟩
theorem dt_rd {kvs : List (List Key × V)} (ok : HOk P w H h) (e : Rd H a (.dT kvs)) : kvs.length <= sizeLine /\ (a == sysModules) = false /\
    ∃ xs, KT H kvs xs /\ h.DictOfH (tupleKind (mixKind P w)) a xs := by
  obtain ⟨z, y, xs, r, o, es, ep, h1, h2, h3, h4, h5⟩ := (show ObjOk P w H h a (.dT kvs) from rd_of ok e)
  refine ⟨z, y, xs, r, o, es, ep, h1, h2, h3, h4, fun x hx => ?_, h5⟩
  have all : ∀ {l : List (List Key × V)} {m : List (List Key × Addr × Value)}, KT H l m -> ∀ x ∈ m, (tupleKind (mixKind P w)).is h x.1 x.2.1 := by
    intro l m q
    induction q with
    | nil => intro x hx; exact nomatch hx
    | @cons p q ps qs hq t ih =>
      intro x hx
      rcases List.mem_cons.mp hx with e | hx
      · subst e
        exact key_of ok (by rw [<- hq.1]; exact hq.2.1)
      · exact ih x hx
  exact all r x hx
theorem dt_of {kvs : List (List Key × V)} (ok : HOk P w H h) (e : H a = some (.dT kvs)) : kvs.length <= sizeLine /\ (a == sysModules) = false /\
    ∃ xs, KT H kvs xs /\ h.DictOfH (tupleKind (mixKind P w)) a xs := dt_rd ok (.inl e)
end
noncomputable def DGet (H : Hp) (a : Addr) (y : V) (r : Option V) : Prop :=
  (∃ kvs k, Rd H a (.dK kvs) /\ y = kV k /\ r = valV kvs k) \/ ∃ kvs k b, Rd H a (.dT kvs) /\ y = .ref b /\ H b = some (.tup (k.map kV)) /\ r = valV kvs k
noncomputable def DPut (H : Hp) (a : Addr) (y v : V) (H' : Hp) : Prop :=
  (∃ kvs k, H a = some (.dK kvs) /\ y = kV k /\ kvs.length < sizeLine /\ H' = upd H a (.dK (putK kvs k v))) \/
  ∃ kvs k b, H a = some (.dT kvs) /\ y = .ref b /\ H b = some (.tup (k.map kV)) /\ kvs.length < sizeLine /\ H' = upd H a (.dT (putK kvs k v))
theorem DGet.k {H : Hp} {a : Addr} {kvs : List (Key × V)} {k : Key} (e : H a = some (.dK kvs)) : DGet H a (kV k) (valV kvs k) := .inl ⟨kvs, k, .inl e, rfl, rfl⟩
theorem DPut.k {H : Hp} {a : Addr} {kvs : List (Key × V)} {k : Key} {v : V} (e : H a = some (.dK kvs)) (hl : kvs.length < sizeLine) : DPut H a (kV k) v (upd H a (.dK (putK kvs k v))) := .inl ⟨kvs, k, e, rfl, hl, rfl⟩
section
variable {X : Cx} {pins : List (Addr × Obj)} {σ : St} {H : Hp} {s : Shared} {a : Addr} {y v : V} {u r : Value} {o : Option V} {A : Around} {E : Value -> Shared -> Prop}
theorem Inv.big (I : Inv X pins σ H s) : sysModules < s.heap.objs.size := by
  have h : mainGlobals < s.heap.objs.size := (I.mod.glob.keeps I.bk).lt
  exact Nat.lt_trans (by decide) h
theorem d_getItem {Q : Value -> Shared -> Prop} (hu : A.units + 1 < cLine) (I : Inv X pins σ H s) (g : DGet H a y (some v)) (ry : RelV y u) (h : ∀ w' s', Inv X pins σ H s' -> RelV v w' -> Q w' s') :
    wpAny (model X.prog X.w) A (getItem (.ref a) u) Q E s := by
  rcases g with ⟨kvs, k, e, ey, l⟩ | ⟨kvs, k, b, e, ey, eb, l⟩
  · subst ey
    obtain ⟨z, hd, vs, rel, dd⟩ := dk_rd I.hok e
    obtain ⟨w', hw, rw'⟩ := RelO.some_of (v := v) (o := valueAt vs k) (by rw [l]; exact rel.val k)
    exact wpAny_getItem_of (kV_is ry) dd.mapOf hw (h w' _ (I.tok _) rw')
  · subst ey
    cases (show u = Value.ref b from ry)
    obtain ⟨z, hd, xs, rel, dd⟩ := dt_rd I.hok e
    obtain ⟨w', hw, rw'⟩ := RelO.some_of (v := v) (o := (atKey xs k).map (·.2)) (by rw [l]; exact rel.val k)
    obtain ⟨p, hp, hp2⟩ := Option.map_eq_some_iff.mp hw
    refine wpAny_getItem_heap (tupleKind_room_in1 hu) (key_of I.hok eb) dd hp ?_
    rw [hp2]
    exact h w' _ (I.tok _) rw'
theorem d_notIn {Q : Value -> Shared -> Prop} (hu : A.units + 1 < cLine) (I : Inv X pins σ H s) (g : DGet H a y o) (ry : RelV y u) (h : ∀ s', Inv X pins σ H s' -> Q (.bool (!o.isSome)) s') :
    wpAny (model X.prog X.w) A (compareOp .NotIn u (.ref a)) Q E s := by
  rcases g with ⟨kvs, k, e, ey, l⟩ | ⟨kvs, k, b, e, ey, eb, l⟩
  · subst ey
    obtain ⟨z, hd, vs, rel, dd⟩ := dk_rd I.hok e
    refine wpAny_notIn_of (kV_is ry) hd dd.mapOf ?_
    rw [<- (rel.val k).isSome_eq, <- l]
    exact h _ (I.tok _)
  · subst ey
    cases (show u = Value.ref b from ry)
    obtain ⟨z, hd, xs, rel, dd⟩ := dt_rd I.hok e
    refine wpAny_notIn_heap (tupleKind_room_in1 hu) (key_of I.hok eb) hd dd ?_
    have q := (rel.val k).isSome_eq
    rw [Option.isSome_map] at q
    rw [<- q, <- l]
    exact h _ (I.tok _)
theorem d_write {h' : Heap} {t' : Nat} {ob : HO} (I : Inv X pins σ H s) (mu : Mut (H a)) (hs : Heap.SameBut a s.heap h') (he : ∃ q, h'.get? a = some q) (new : ObjOk X.prog X.w (upd H a ob) h' a ob) :
    Inv X pins σ (upd H a ob) { s with heap := h', toks := t' } :=
  I.write (x := a) (e := a) mu (.inl rfl) (fun b q hb z => (hs.2 b hb).trans z) he new
theorem dk_new {P : Program} {w : World} {H' : Hp} {h' : Heap} {kvs : List (Key × V)} {vs : List (Key × Value)} (z : kvs.length <= sizeLine) (hd : (a == sysModules) = false) (rel : KV kvs vs) (dd : h'.DictOf (mixKind P w) a vs) :
    ObjOk P w H' h' a (.dK kvs) := ⟨z, hd, vs, rel, dd⟩
theorem d_setItem {H' : Hp} {Q : Unit -> Shared -> Prop} (hu : A.units + 1 < cLine) (I : Inv X pins σ H s) (g : DPut H a y v H') (ry : RelV y u) (rv : RelV v r) (h : ∀ s', Inv X pins σ H' s' -> Q () s') :
    wpAny (model X.prog X.w) A (setItem (.ref a) u r) Q E s := by
  rcases g with ⟨kvs, k, e, ey, l, eH⟩ | ⟨kvs, k, b, e, ey, eb, l, eH⟩
  · subst ey eH
    obtain ⟨z, hd, vs, rel, dd⟩ := dk_of I.hok e
    have hz : vs.length <= sizeLine := by rw [<- rel.length]; exact z
    have hl : (putK kvs k v).length <= sizeLine := by have := length_putK kvs k v; omega
    refine wpAny_setItem_pairs (hsz := hz) (kV_is ry) dd fun h' dd' hs => h _ ?_
    have he : ∃ q, h'.get? a = some q := let ⟨q, _, _, hq, _⟩ := dd'; ⟨q, hq⟩
    exact d_write I (by rw [e]; exact True.intro) hs he (dk_new hl hd (rel.put k rv) dd')
  · subst ey eH
    cases (show u = Value.ref b from ry)
    obtain ⟨z, hd, xs, rel, dd⟩ := dt_of I.hok e
    have hz : xs.length <= sizeLine := by rw [<- Paired.length rel]; exact z
    have hl : (putK kvs k v).length <= sizeLine := by have := length_putK kvs k v; omega
    refine wpAny_setItem_heap (hsz := hz) (tupleKind_room_in1 hu) (key_of I.hok eb) dd fun h' dd' hs => h _ ?_
    obtain ⟨q, es, ep, hq, h2, h3, h4, _, h5⟩ := dd'
    refine d_write I (by rw [e]; exact True.intro) hs ⟨q, hq⟩ ⟨hl, hd, _, (rel.put k eb rv).keeps fun c ys ec => ?_, q, es, ep, hq, h2, h3, h4, h5⟩
    rw [upd_ne (ne_of ec e (fun z => nomatch z))]
    exact ec
end
section
variable {X : Cx} {pins : List (Addr × Obj)} {σ : St} {H : Hp} {s : Shared} {a : Addr} {kvs : List (Key × V)} {k : Key} {u : Value} {A : Around} {E : Value -> Shared -> Prop}
end
noncomputable def NoSl (i : Expr) : Prop := ∀ ov iv, subscripted i false ov iv = operate [ov, iv] (getItem ov iv)
theorem subD_of {prog : Program} {w : World} {A : Around} {E : Value -> Shared -> Prop} {s : Shared} {env : Env} {value slice : Expr} {pos : Pos} {T id : String} {Q : Value -> Shared -> Prop}
    (hl : typeLookup (.type T) "__getitem__" = pure (some (.builtin id))) (hs : NoSl slice)
    (h : wpAny (model prog w) A (eval value env) (fun o s₁ => wpAny (model prog w) A (eval slice env) (fun i s₂ => s₂.TypeIs o T /\ wpAny (model prog w) A (getItem o i) Q E s₂) E s₁) E s) :
    wpAny (model prog w) A (eval (.Subscript value slice pos) env) Q E s := by
  refine Subscript_ (wpAny_mono h (fun o s₁ h₁ => wpAny_mono h₁ (fun i s₂ h₂ => ?_) fun _ _ x => x) fun _ _ x => x)
  obtain ⟨hT, h₂⟩ := h₂
  unfold subscriptTail
  refine wpAny_bind ?_
  rw [getitemInPython_of_ne hT.not_modules]
  refine wpAny_bind (wpAny_specialOf hT hl ?_)
  have fin : wpAny (model prog w) A (subscripted slice false o i) (fun r s₃ => wpAny (model prog w) A (letTemporaryGo value o r >>= fun _ => pure r) Q E s₃) E s₂ := by
    rw [hs o i]
    exact wpAny_operating (wpAny_mono h₂ (fun r s₃ h₃ => wpAny_bind (wpAny_letTemporaryGo (wpAny_pure h₃))) fun _ _ x => x)
  first
    | exact wpAny_pure (wpAny_bind fin)
    | exact wpAny_bind (wpAny_pure (wpAny_bind fin))
    | exact wpAny_bind fin
theorem dict_typeIs {X : Cx} {pins : List (Addr × Obj)} {σ : St} {H : Hp} {s : Shared} {a : Addr} {y : V} {o : Option V} (I : Inv X pins σ H s) (g : DGet H a y o) : s.TypeIs (.ref a) "dict" := by
  rcases g with ⟨kvs, k, e, _, _⟩ | ⟨kvs, k, b, e, _, _, _⟩
  · obtain ⟨_, _, vs, _, dd⟩ := dk_rd I.hok e
    exact dd.typeIs
  · obtain ⟨_, _, xs, _, dd⟩ := dt_rd I.hok e
    exact dd.typeIs
noncomputable def tDGet (td ty : TE) : TE := fun σ H Q => td σ H fun x H1 => ty σ H1 fun y H2 => ∃ a v, x = .ref a /\ DGet H2 a y (some v) /\ Q v H2
noncomputable def tDNotIn (ty td : TE) : TE := fun σ H Q => ty σ H fun y H1 => td σ H1 fun x H2 => ∃ a o, x = .ref a /\ DGet H2 a y o /\ Q (.bl (!o.isSome)) H2
noncomputable def sDPut (td ty tv : TE) : TS := fun D σ H => tv σ H fun v H1 => td σ H1 fun x H2 => ty σ H2 fun y H3 => ∃ a H4, x = .ref a /\ DPut H3 a y v H4 /\ D.nx σ H4
section
variable {X : Cx} {o i e value : Expr} {pos pos' tpos : Pos} {td ty tv : TE}
theorem pe_dget (hu : X.A.units + 1 < cLine) (ho : PE X o td) (hi : PE X i ty) (hs : NoSl i) : PE X (.Subscript o i pos) (tDGet td ty) := by
  intro pins s σ H Q I h
  refine subD_of PySem.F.slot_dict_getitem.lookup hs (thn (ho pins s σ H _ I h) fun u s1 ⟨x, H1, I1, rx, q1⟩ => thn (hi pins s1 σ H1 _ I1 q1) fun iv s2 ⟨y, H2, I2, ry, a, v, ex, g, q2⟩ => ?_)
  subst ex
  obtain rfl : u = Value.ref a := rx
  exact ⟨dict_typeIs I2 g, d_getItem hu I2 g ry fun w' s3 I3 rw' => ⟨v, H2, I3, rw', q2⟩⟩
theorem pc_dnotin (hu : X.A.units + 1 < cLine) (hi : PE X i ty) (ho : PE X o td) : PC X .NotIn i o (tDNotIn ty td) := by
  intro pins s σ H Q I h
  refine thn (hi pins s σ H _ I h) fun iv s1 ⟨y, H1, I1, ry, q1⟩ => thn (ho pins s1 σ H1 _ I1 q1) fun u s2 ⟨x, H2, I2, rx, a, ov, ex, g, q2⟩ => ?_
  subst ex
  obtain rfl : u = Value.ref a := rx
  exact d_notIn hu I2 g ry fun s3 I3 => ⟨.bl (!ov.isSome), H2, I3, rfl, q2⟩
theorem ps_dput (hu : X.A.units + 1 < cLine) (ho : PE X o td) (hi : PE X i ty) (hv : PE X value tv) (hs : swapsWith value (some (.Subscript o i pos')) pos.line X.env = pure false) :
    PS X (.Assign [.Subscript o i pos'] value pos) (sDPut td ty tv) := by
  intro pins s σ H D I h
  refine wpAny_Assign_Subscript (thn (hv pins s σ H _ I h) fun r s1 ⟨v, H1, I1, rv, q1⟩ => thn (ho pins s1 σ H1 _ I1 q1) fun u s2 ⟨x, H2, I2, rx, q2⟩ => thn (hi pins s2 σ H2 _ I2 q2) fun iv s3 ⟨y, H3, I3, ry, a, H4, ex, g, q3⟩ => ?_) hs
  subst ex
  obtain rfl : u = Value.ref a := rx
  exact d_setItem hu I3 g ry rv fun s4 I4 => ⟨σ, H4, I4, q3⟩
end
theorem dk_empty {P : Program} {w : World} {H : Hp} (h : Heap) (hb : sysModules < h.objs.size) : ObjOk P w H (h.push { cls := .type "dict", data := .dict #[] }) h.objs.size (.dK []) :=
  ⟨Nat.zero_le _, beq_eq_false_iff_ne.mpr (Ne.symm (Nat.ne_of_lt hb)), [], .nil, Heap.DictOf.new h⟩
noncomputable def tDNewK : TE := fun _ H Q => ∀ p, H p = none -> Q (.ref p) (upd H p (.dK []))
section
variable {X : Cx} {pos : Pos}
theorem pe_dnewK : PE X (.Dict [] [] pos) tDNewK := fun pins s σ H Q I h =>
  wpAny_Dict_empty ⟨.ref s.heap.objs.size, _, I.laid (a := s.heap.objs.size) (o := .dK []) (t' := s.toks) (fun _ _ q => Heap.get?_push_of_some _ q) (Nat.le_refl _) (dk_empty s.heap I.big), rfl, h _ (I.hok.fresh (Nat.le_refl _))⟩
end
structure M1 (X : Cx) (o : Expr) (m : Str) (apos : Pos) (e : Expr) (cpos : Pos) : Prop where
  base : attributeBase o m X.env (eval o X.env) = eval o X.env
  few : ((backTo cpos (starEach [e] X.env)).all (fun x => !x.1) && (backToKw cpos (keywordEach [] X.env)).all (fun x => x.1.isSome)
    && decide (([e] : List Expr).length + ([] : List Keyword).length + (if ([] : List Keyword).isEmpty then 0 else 1) < 30)) = true
  line : (apos.endLine == cpos.line) = true
  trees : backTo cpos (starEach [e] X.env) = [(false, eval e X.env)]
structure M2 (X : Cx) (o : Expr) (m : Str) (apos : Pos) (e f : Expr) (cpos : Pos) : Prop where
  base : attributeBase o m X.env (eval o X.env) = eval o X.env
  few : ((backTo cpos (starEach [e, f] X.env)).all (fun x => !x.1) && (backToKw cpos (keywordEach [] X.env)).all (fun x => x.1.isSome)
    && decide (([e, f] : List Expr).length + ([] : List Keyword).length + (if ([] : List Keyword).isEmpty then 0 else 1) < 30)) = true
  line : (apos.endLine == cpos.line) = true
  trees : backTo cpos (starEach [e, f] X.env) = [(false, eval e X.env), (false, eval f X.env)]
section
variable {X : Cx} {pins : List (Addr × Obj)} {σ : St} {H : Hp} {s : Shared} {a : Addr} {y d : V} {u r : Value} {o : Option V} {A : Around} {E : Value -> Shared -> Prop}
end
section
variable {X : Cx} {o e f : Expr} {apos cpos : Pos} {td ty tx : TE}
end
section
variable {X : Cx} {pins : List (Addr × Obj)} {σ : St} {H : Hp} {s : Shared} {a : Addr} {kvs : List (Key × V)} {A : Around} {E : Value -> Shared -> Prop}
end
section
variable {X : Cx} {pins : List (Addr × Obj)} {σ : St} {H : Hp} {s : Shared} {a : Addr} {y : V} {u : Value} {A : Around} {E : Value -> Shared -> Prop}
end
end L2
namespace L2
open PySem PySem.Spec PyProof.Rows
section
variable {prog : Program} {w : World} {A : Around} {E : Value -> Shared -> Prop} {s : Shared}
end
section
variable {X : Cx}
end
end L2
set_option maxHeartbeats 1000000
namespace L2
open PySem PySem.Spec PyProof.Rows
section
variable {prog : Program} {w : World} {KK : Type} [DecidableEq KK] {knd : KeyKind prog w KK}
end
section
variable {X : Cx}
end
end L2
set_option maxHeartbeats 1000000
namespace L2.F2
open PySem PySem.Spec PyProof.Rows
end L2.F2
namespace L2
open PySem PySem.Spec PyProof.Rows
section
variable {prog : Program} {w : World} {A : Around} {E : Value -> Shared -> Prop} {s : Shared}
end
section
variable {X : Cx}
end
end L2
set_option maxHeartbeats 1000000
namespace L2
open PySem PySem.Spec PyProof.Rows
section
variable {prog : Program} {w : World} {A : Around} {E : Value -> Shared -> Prop} {s : Shared}
end
section
variable {X : Cx}
end
end L2
set_option maxHeartbeats 2000000
namespace L2
open PySem PySem.Spec PyProof.Rows
section
variable {prog : Program} {w : World} {A : Around} {E : Value -> Shared -> Prop} {s : Shared}
end
section
variable {X : Cx}
end
noncomputable def dd {α : Type} [DecidableEq α] : List α -> List α -> List α
  | σ, [] => σ
  | σ, x :: l => dd (if x ∈ σ then σ else σ ++ [x]) l
section
variable {prog : Program} {w : World} {A : Around} {E : Value -> Shared -> Prop} {s : Shared}
noncomputable abbrev SetT (prog : Program) (w : World) (h : Heap) (a : Addr) (l : List Str) : Prop := h.SetOf (strKind prog w) a (fun k => decide (k ∈ dd [] l)) (dd [] l).length
end
section
variable {prog : Program} {w : World} {A : Around} {E : Value -> Shared -> Prop} {s : Shared}
end
section
variable {X : Cx}
end
end L2
namespace L2
open PySem PySem.Spec PyProof.Rows
section
variable {prog : Program} {w : World} {A : Around} {E : Value -> Shared -> Prop} {s : Shared}
noncomputable def TuxAt (h : Heap) (k : Nat) (v : Value) (ns : List Int) : Prop := ∃ x ox us m is z t, v = .ref x /\ h.get? x = some ox /\ ox.cls = .type "tuple" /\ ox.data = .seq us m /\ us.toList = is ++ [.str z t] /\ IntsAre is ns /\ ns.length = k + 1
noncomputable def TuxsAt (h : Heap) (k : Nat) : List Value -> List (List Int) -> Prop
  | [], [] => True
  | v :: vs, n :: ns => TuxAt h k v n /\ TuxsAt h k vs ns
  | _, _ => False
end
section
variable {X : Cx}
noncomputable def TxsV (K : PySem.W.Frag) (H : Hp) (k : Nat) : List V -> List (List Int) -> Prop
  | [], [] => True
  | v :: vs, n :: ns => (∃ t z, v = .ref t /\ SqT K H t (n.map V.int ++ [.str z]) /\ n.length = k + 1) /\ TxsV K H k vs ns
  | _, _ => False
end
section
variable {X : Cx}
end
end L2
namespace L2
open PySem PySem.Spec PyProof.Rows
section
variable {X : Cx} {st : Stmt} {rest : List Stmt} {t u : TS}
noncomputable def tVia (t u : TS) : TS := fun D σ H => ∃ P : St -> Hp -> Prop, t { D with nx := P } σ H /\ ∀ σ' H', P σ' H' -> u D σ' H'
theorem pss_via (h1 : PS X st t) (h2 : PSs X rest u) : PSs X (st :: rest) (tVia t u) := by
  intro pins s σ H D I h
  obtain ⟨P, h, g⟩ := h
  refine wpAny_execs_cons (thn (h1 pins s σ H _ I h) fun f s1 q => ?_)
  cases f with
  | ret v => exact q
  | brk => exact q
  | cont => exact q
  | next =>
    obtain ⟨τ, G, J, p⟩ := q
    exact h2 pins s1 τ G D J (g τ G p)
end
end L2
namespace L2
open PySem PySem.Spec PyProof.Rows
section
variable {X : Cx}
end
end L2
namespace L2
open PySem PySem.Spec PyProof.Rows
section
variable {X : Cx}
end
section
variable {prog : Program} {w : World} {A : Around} {E : Value -> Shared -> Prop} {s : Shared}
structure ZA (z TI TO i1 i2 : Addr) (f1 f2 : List Addr) : Prop where
  m1 : i1 ∈ f1
  m2 : i2 ∈ f2
  z1 : z ∉ f1
  z2 : z ∉ f2
  o1 : TO ∉ f1
  o2 : TO ∉ f2
  c1 : i1 ∉ f2
  c2 : i2 ∉ f1
  tz : TI ≠ z
  tt : TI ≠ TO
  t1 : TI ≠ i1
  t2 : TI ≠ i2
  oz : TO ≠ z
theorem nm {a b : Addr} {f : List Addr} (h : a ∈ f) (n : b ∉ f) : a ≠ b := fun z => n (z ▸ h)
section
variable {z TI TO i1 i2 : Addr} {f1 f2 : List Addr} {n1 n2 i : Nat} {P1 P2 : Nat -> Value -> Prop} {S1 S2 : Nat -> Heap -> Prop} {a b : Value}
theorem zipD_item {Q : Value -> Shared -> Prop} (D1 : Draws prog w A i1 f1 n1 P1 S1) (D2 : Draws prog w A i2 f2 n2 P2 S2) (Z : ZA z TI TO i1 i2 f1 f2)
    (hz : IsZip s.heap z TI TO .none) (hTI : IsPair s.heap TI (.ref i1) (.ref i2)) (hTO : IsPair s.heap TO a b) (h1 : S1 i s.heap) (h2 : S2 i s.heap) (l1 : i < n1) (l2 : i < n2)
    (hQ : ∀ x y h' tk, P1 i x -> P2 i y -> IsZip h' z TI TO (rawInt s.heap.objs.size) -> IsPair h' TO x y -> S1 (i + 1) h' -> S2 (i + 1) h' -> IsPair h' s.heap.objs.size x y -> h'.objs.size = s.heap.objs.size + 1 ->
      (∀ c o, c ≠ z -> c ≠ TO -> c ≠ i1 -> c ≠ i2 -> s.heap.get? c = some o -> h'.get? c = some o) -> Q (.ref s.heap.objs.size) { s with heap := h', toks := tk }) :
    wpAny (model prog w) A (Builtin.«zip.__next__» ⟨[.ref z], []⟩) (fun fin s' => ∃ v, fin = .done (.ret v) /\ Q v s') E s := by
  obtain ⟨hp, g, d, tk0, os⟩ := s
  have i1z := nm Z.m1 Z.z1
  have i2z := nm Z.m2 Z.z2
  have i1o := nm Z.m1 Z.o1
  have i2o := nm Z.m2 Z.o2
  have i21 := nm Z.m2 Z.c1
  refine wpAny_bind (m := field (.ref z) 2) (wpAny_field hz rfl (x := .bool false) rfl ?_)
  refine wpAny_bind (m := field (.ref z) 3) (wpAny_field hz rfl (x := .ref TI) rfl ?_)
  refine wpAny_bind (m := seqItems? (.ref TI)) (wpAny_seqItems hTI rfl ?_)
  refine wpAny_bind (m := Builtin.SmallTypes.ownedTupleIsFree (.ref z)) ?_
  (unfold Builtin.SmallTypes.ownedTupleIsFree; refine wpAny_bind (m := field (.ref z) 0) (wpAny_field hz rfl (x := .none) rfl (wpAny_pure ?_)))
  simp only [if_true]
  refine wpAny_bind (wpAny_rule ?_); refine wpAny_bind (m := field (.ref z) 4) (wpAny_field hz rfl (x := .ref TO) rfl ?_)
  refine wpAny_bind (wpAny_setField_rec hz (by simp) fun k1 zk1 sk1 => ?_)
  replace zk1 : IsZip k1 z TI TO .ellipsis := zk1
  replace sk1 : Heap.SameBut z hp k1 := sk1
  refine wpAny_bind ?_; simp only [List.zipIdx_cons, List.zipIdx_nil, List.forIn_cons, List.forIn_nil]
  refine wpAny_bind (wpAny_bind (wpAny_onRaise ?_)); refine wpAny_bind (m := Builtin.SmallTypes.nextOf (.ref i1)) ?_
  refine D1.item i _ _ _ l1 (D1.frame _ _ _ h1 fun c hc o e => sk1.extBut _ _ (nm hc Z.z1) e) fun x k2 tk2 px st2 sk2 => wpAny_pure ?_
  replace sk2 : Heap.SameBut i1 k1 k2 := sk2
  have to2 : IsPair k2 TO a b := sk2.extBut _ _ (Ne.symm i1o) (sk1.extBut _ _ Z.oz hTO)
  refine wpAny_bind (m := seqItems? (.ref TO)) (wpAny_seqItems to2 rfl ?_)
  refine wpAny_bind (wpAny_updateSeq_pair to2 fun k3 to3 sk3 => ?_)
  replace to3 : IsPair k3 TO x b := to3
  replace sk3 : Heap.SameBut TO k2 k3 := sk3
  refine wpAny_bind (wpAny_letGo (wpAny_pure ?_)); refine wpAny_bind (wpAny_bind (wpAny_onRaise ?_))
  refine wpAny_bind (m := Builtin.SmallTypes.nextOf (.ref i2)) ?_
  refine D2.item i _ _ _ l2 (D2.frame _ _ _ h2 fun c hc o e => sk3.extBut _ _ (nm hc Z.o2) (sk2.extBut _ _ (nm hc Z.c1) (sk1.extBut _ _ (nm hc Z.z2) e))) fun y k4 tk4 py st4 sk4 => wpAny_pure ?_
  replace sk4 : Heap.SameBut i2 k3 k4 := sk4
  have to4 : IsPair k4 TO x b := sk4.extBut _ _ (Ne.symm i2o) to3
  refine wpAny_bind (m := seqItems? (.ref TO)) (wpAny_seqItems to4 rfl ?_)
  refine wpAny_bind (wpAny_updateSeq_pair to4 fun k5 to5 sk5 => ?_)
  replace to5 : IsPair k5 TO x y := to5
  replace sk5 : Heap.SameBut TO k4 k5 := sk5
  refine wpAny_bind (wpAny_letGo (wpAny_pure (wpAny_pure ?_))); refine wpAny_bind (m := seqItems? (.ref TO)) (wpAny_seqItems to5 rfl ?_)
  refine wpAny_bind (wpAny_newTuple ?_)
  have sz : k5.objs.size = hp.objs.size := by rw [sk5.1, sk4.1, sk3.1, sk2.1, sk1.1]
  have z5 : IsZip k5 z TI TO .ellipsis := sk5.extBut _ _ (Ne.symm Z.oz) (sk4.extBut _ _ (Ne.symm i2z) (sk3.extBut _ _ (Ne.symm Z.oz) (sk2.extBut _ _ (Ne.symm i1z) zk1)))
  have kp : ∀ c o, c ≠ z -> c ≠ TO -> c ≠ i1 -> c ≠ i2 -> hp.get? c = some o -> k5.get? c = some o := fun c o c1 c2 c3 c4 e => sk5.extBut _ _ c2 (sk4.extBut _ _ c4 (sk3.extBut _ _ c2 (sk2.extBut _ _ c3 (sk1.extBut _ _ c1 e))))
  have s15 : S1 (i + 1) k5 := D1.frame _ _ _ st2 fun c hc o e => sk5.extBut _ _ (nm hc Z.o1) (sk4.extBut _ _ (nm hc Z.c2) (sk3.extBut _ _ (nm hc Z.o1) e))
  have s25 : S2 (i + 1) k5 := D2.frame _ _ _ st4 fun c hc o e => sk5.extBut _ _ (nm hc Z.o2) e
  have zl : z < k5.objs.size := Heap.lt_size z5
  refine wpAny_bind (m := Builtin.SmallTypes.ownedTupleHandOut (.ref z) (.ref k5.objs.size)) ?_
  have z6 : IsZip (k5.push { cls := .type "tuple", data := .seq #[x, y] }) z TI TO .ellipsis := Heap.get?_push_of_some _ z5
  (unfold Builtin.SmallTypes.ownedTupleHandOut; refine wpAny_bind (wpAny_setField_rec z6 (by simp) fun k7 z7 s7 => ?_))
  replace z7 : IsZip k7 z TI TO (rawInt k5.objs.size) := z7
  refine wpAny_setField_rec z7 (by simp) fun k8 z8 s8 => ?_
  replace z8 : IsZip k8 z TI TO (rawInt k5.objs.size) := z8
  have up : ∀ c o, c ≠ z -> k5.get? c = some o -> k8.get? c = some o := fun c o c1 e => s8.extBut _ _ c1 (s7.extBut _ _ c1 (Heap.get?_push_of_some _ e))
  have t8 : IsPair k8 k5.objs.size x y := s8.extBut _ _ (Nat.ne_of_gt zl) (s7.extBut _ _ (Nat.ne_of_gt zl) (Heap.get?_push_size _ rfl))
  have e8 : k8.objs.size = k5.objs.size + 1 := by rw [s8.1, s7.1, Heap.size_push]
  rw [sz] at z8 t8 e8
  refine wpAny_pure ⟨_, rfl, ?_⟩
  show Q (.ref k5.objs.size) _
  rw [sz]
  exact hQ x y k8 tk4 px py z8 (up _ _ Z.oz to5) (D1.frame _ _ _ s15 fun c hc o e => up c o (nm hc Z.z1) e) (D2.frame _ _ _ s25 fun c hc o e => up c o (nm hc Z.z2) e) t8 e8 fun c o c1 c2 c3 c4 e => up c o c1 (kp c o c1 c2 c3 c4 e)
theorem zipD_end {Q : Fin -> Shared -> Prop} (D1 : Draws prog w A i1 f1 n1 P1 S1) (Z : ZA z TI TO i1 i2 f1 f2)
    (hz : IsZip s.heap z TI TO .none) (hTI : IsPair s.heap TI (.ref i1) (.ref i2)) (hTO : IsPair s.heap TO a b) (h1 : S1 n1 s.heap)
    (hE : ∀ h' e, (∀ c o, c ≠ z -> c ≠ TO -> c ≠ i1 -> c ≠ i2 -> s.heap.get? c = some o -> h'.get? c = some o) -> (∃ o, h'.get? e = some o /\ o.cls = .type "StopIteration") -> E (.ref e) { s with heap := h' }) :
    wpAny (model prog w) A (Builtin.«zip.__next__» ⟨[.ref z], []⟩) Q E s := by
  obtain ⟨hp, g, d, tk0, os⟩ := s
  have i1z := nm Z.m1 Z.z1
  refine wpAny_bind (m := field (.ref z) 2) (wpAny_field hz rfl (x := .bool false) rfl ?_)
  refine wpAny_bind (m := field (.ref z) 3) (wpAny_field hz rfl (x := .ref TI) rfl ?_)
  refine wpAny_bind (m := seqItems? (.ref TI)) (wpAny_seqItems hTI rfl ?_)
  refine wpAny_bind (m := Builtin.SmallTypes.ownedTupleIsFree (.ref z)) ?_
  (unfold Builtin.SmallTypes.ownedTupleIsFree; refine wpAny_bind (m := field (.ref z) 0) (wpAny_field hz rfl (x := .none) rfl (wpAny_pure ?_)))
  simp only [if_true]
  refine wpAny_bind (wpAny_rule ?_); refine wpAny_bind (m := field (.ref z) 4) (wpAny_field hz rfl (x := .ref TO) rfl ?_)
  refine wpAny_bind (wpAny_setField_rec hz (by simp) fun k1 zk1 sk1 => ?_)
  replace zk1 : IsZip k1 z TI TO .ellipsis := zk1
  replace sk1 : Heap.SameBut z hp k1 := sk1
  refine wpAny_bind ?_; simp only [List.zipIdx_cons, List.zipIdx_nil, List.forIn_cons, List.forIn_nil]
  refine wpAny_bind (wpAny_bind (wpAny_onRaise ?_)); refine wpAny_bind (m := Builtin.SmallTypes.nextOf (.ref i1)) ?_
  refine D1.done _ _ _ (D1.frame _ _ _ h1 fun c hc o e => sk1.extBut _ _ (nm hc Z.z1) e) fun k2 e sk2 he => ?_
  obtain ⟨oe, hoe, hce⟩ := he
  have z2 : IsZip k2 z TI TO .ellipsis := sk2 _ _ (Ne.symm i1z) zk1
  have ez : e ≠ z := fun x => by subst x; rw [z2] at hoe; cases hoe; simp at hce
  refine wpAny_setField_rec z2 (by simp) fun k3 _ sk3 => hE k3 e (fun c o c1 _ c3 _ x => sk3.extBut _ _ c1 (sk2 _ _ c3 (sk1.extBut _ _ c1 x))) ⟨oe, sk3.extBut _ _ ez hoe, hce⟩
theorem nextZ_item {Q : Option Value -> Shared -> Prop} (D1 : Draws prog w A.in1 i1 f1 n1 P1 S1) (D2 : Draws prog w A.in1 i2 f2 n2 P2 S2) (Z : ZA z TI TO i1 i2 f1 f2)
    (hz : IsZip s.heap z TI TO .none) (hTI : IsPair s.heap TI (.ref i1) (.ref i2)) (hTO : IsPair s.heap TO a b) (h1 : S1 i s.heap) (h2 : S2 i s.heap) (l1 : i < n1) (l2 : i < n2)
    (hQ : ∀ x y h' tk, P1 i x -> P2 i y -> IsZip h' z TI TO (rawInt s.heap.objs.size) -> IsPair h' TO x y -> S1 (i + 1) h' -> S2 (i + 1) h' -> IsPair h' s.heap.objs.size x y -> h'.objs.size = s.heap.objs.size + 1 ->
      (∀ c o, c ≠ z -> c ≠ TO -> c ≠ i1 -> c ≠ i2 -> s.heap.get? c = some o -> h'.get? c = some o) -> Q (some (.ref s.heap.objs.size)) { s with heap := h', toks := tk }) :
    wpAny (model prog w) A (pyNext (.ref z)) Q E s := by
  have hT : s.TypeIs (.ref z) "zip" := ⟨_, hz, rfl⟩
  unfold pyNext
  exact wpAny_bind (wpAny_attempt (wpAny_callSpecial?_slot (name := Str.ofString "__next__") hT F.slot_zip_next (wpAny_call_entry F.slot_zip_next hT F.entry_zip_next
      (zipD_item D1 D2 Z hz hTI hTO h1 h2 l1 l2 fun x y h' tk p1 p2 a1 a2 a3 a4 a5 a6 a7 => wpAny_pure (hQ x y h' tk p1 p2 a1 a2 a3 a4 a5 a6 a7)) (F.args_zip_next_1 _))))
theorem nextZ_end {Q : Option Value -> Shared -> Prop} (D1 : Draws prog w A.in1 i1 f1 n1 P1 S1) (Z : ZA z TI TO i1 i2 f1 f2)
    (hz : IsZip s.heap z TI TO .none) (hTI : IsPair s.heap TI (.ref i1) (.ref i2)) (hTO : IsPair s.heap TO a b) (h1 : S1 n1 s.heap)
    (hQ : ∀ h', (∀ c o, c ≠ z -> c ≠ TO -> c ≠ i1 -> c ≠ i2 -> s.heap.get? c = some o -> h'.get? c = some o) -> Q none { s with heap := h' }) : wpAny (model prog w) A (pyNext (.ref z)) Q E s := by
  have hT : s.TypeIs (.ref z) "zip" := ⟨_, hz, rfl⟩
  unfold pyNext
  refine wpAny_bind (wpAny_attempt (wpAny_callSpecial?_slot (name := Str.ofString "__next__") hT F.slot_zip_next (wpAny_call_entry F.slot_zip_next hT F.entry_zip_next (zipD_end D1 Z hz hTI hTO h1 fun h' e hk he => ?_) (F.args_zip_next_1 _))))
  obtain ⟨o, ho, hc⟩ := he
  refine wpAny_bind (wpAny_isInstance (T := "StopIteration") (b := true) ⟨o, ho, hc⟩ isSubtype_stop (wpAny_pure (hQ _ hk)))
end
structure ZS (P : Program) (w : World) (K : PySem.W.Frag) (a it : Addr) (Sq : Hp -> List V -> Prop) (IT : Nat -> Heap -> Prop) : Prop where
  obj : ∀ i h, IT i h -> ∃ o, h.get? it = some o /\ ∀ v, o.data ≠ .cell v
  keep : ∀ i h h', IT i h -> (∀ o, h.get? it = some o -> h'.get? it = some o) -> IT i h'
  inj : ∀ (X : Cx), X.K = K -> ∀ (pins : List (Addr × Obj)) (s : Shared) (σ : St) (H : Hp), Inv X pins σ H s -> ∀ xs ys, Sq H xs -> Sq H ys -> xs = ys
  draws : ∀ (X : Cx), X.prog = P -> X.w = w -> X.K = K -> X.calm = true -> ∀ (pins : List (Addr × Obj)) (s : Shared) (σ : St) (H : Hp), Inv X pins σ H s -> ∀ xs, Sq H xs -> a ≠ it ->
    ∃ (its : List Value) (SS : Nat -> Heap -> Prop), Vals xs its /\ Draws P w X.A.in1 it [it, a] its.length (fun i v => its[i]? = some v) SS /\ (∀ i, IT i s.heap -> SS i s.heap) /\ ∀ i h, SS i h -> IT i h
theorem zs_tup {P : Program} {w : World} {K : PySem.W.Frag} (a it : Addr) : ZS P w K a it (fun H xs => SqT K H a xs) (fun i h => h.IsTupleIter it a i) where
  obj := fun i h st => by
    obtain ⟨o, ho, hc, hd⟩ := st
    exact ⟨o, ho, fun v z => by rw [hd] at z; cases z⟩
  keep := fun i h h' st k => by
    obtain ⟨o, ho, r⟩ := st
    exact ⟨o, k o ho, r⟩
  inj := fun X hK pins s σ H I xs ys h1 h2 => by subst hK; exact I.tuple_inj h1 h2
  draws := fun X hP hw hK hc pins s σ H I xs hq ne => by
    subst hP hw hK
    obtain ⟨its, rv, p, _⟩ := I.tuple hq
    have D := draws_tuple (prog := X.prog) (w := X.w) (A := X.A.in1) (I.ok.hd hc) it a ne its.toArray
    refine ⟨its, fun i h => h.IsTupleIter it a i /\ h.IsTuple a its.toArray, rv, ?_, fun i h => ⟨h, p⟩, fun i h z => z.1⟩
    have e : its.toArray.size = its.length := List.size_toArray
    rw [<- e]
    refine ⟨D.live, D.frame, fun i s Q E hi st q => D.item i s Q E hi st fun x h' tk hx => q x h' tk (by simpa using hx), D.done⟩
noncomputable def ItZ (Sq1 Sq2 : Hp -> List V -> Prop) : It := ⟨fun i H => ∃ xs ys x y, Sq1 H xs /\ Sq2 H ys /\ xs[i]? = some x /\ ys[i]? = some y,
  fun i H x H' => ∃ T u v, (∀ xs, Sq1 H xs -> xs[i]? = some u) /\ (∀ ys, Sq2 H ys -> ys[i]? = some v) /\ x = .ref T /\ H T = none /\ H' = upd H T (.tup [u, v]),
  fun i H => ∃ xs, Sq1 H xs /\ (∃ ys, Sq2 H ys) /\ xs.length = i⟩
noncomputable abbrev zmA (h : Heap) (c : String) (l : Addr) : Heap := h.push { cls := .type c, data := .fields #[.ref l, .int 0 0] }
noncomputable abbrev zmB (h : Heap) (c d : String) (l m : Addr) : Heap := zmA (zmA h c l) d m
noncomputable abbrev zmC (h : Heap) (c d : String) (l m : Addr) : Heap := (zmB h c d l m).push { cls := .type "tuple", data := .seq #[.ref h.objs.size, .ref (zmA h c l).objs.size] }
noncomputable abbrev zmD (h : Heap) (c d : String) (l m : Addr) : Heap := (zmC h c d l m).push { cls := .type "tuple", data := .seq #[.none, .none] }
noncomputable abbrev zmE (h : Heap) (c d : String) (l m : Addr) : Heap := (zmD h c d l m).push { cls := .type "zip", data := .fields #[.none, .bool false, .bool false, .ref (zmB h c d l m).objs.size, .ref (zmC h c d l m).objs.size] }
theorem meets_zipTT (l m : Addr) (xs ys : Array Value) : Meets (Builtin.«zip.__new__» ⟨[.type "zip", .ref l, .ref m], []⟩) (fun _ R s => s.heap.IsTuple l xs /\ s.heap.IsTuple m ys /\ R (.ok (.ret (.ref (zmD s.heap "tuple_iterator" "tuple_iterator" l m).objs.size))) { s with heap := zmE s.heap "tuple_iterator" "tuple_iterator" l m }) :=
  .of_wp fun prog w A R s h => by
    obtain ⟨hp, g, d, tk, os⟩ := s; obtain ⟨q1, q2, h⟩ := h; have hsub := sub_zip
    have k1 : Heap.IsTuple (Shared.heap ⟨hp, g, d, tk, os⟩) l xs := q1
    have k2 : Heap.IsTuple (Shared.heap ⟨hp.push { cls := .type "tuple_iterator", data := .fields #[.ref l, .int 0 0] }, g, d, tk, os⟩) m ys := by
      obtain ⟨o, e, r⟩ := q2
      exact ⟨o, Heap.get?_push_of_some _ e, r⟩
    wp_walk using wpAny_pyIter_tuple k1, wpAny_pyIter_tuple k2
    exact ⟨_, rfl, h⟩
noncomputable def ZMk (c d : String) (P1 P2 : Heap -> Prop) (l m : Addr) : Prop := ∀ (prog : Program) (w : World) (A : Around) (E : Value -> Shared -> Prop) (s : Shared) (Q : Value -> Shared -> Prop), P1 s.heap -> P2 s.heap ->
    (∀ h', IsZip h' (s.heap.objs.size + 4) (s.heap.objs.size + 2) (s.heap.objs.size + 3) .none -> IsPair h' (s.heap.objs.size + 2) (.ref s.heap.objs.size) (.ref (s.heap.objs.size + 1)) ->
      IsPair h' (s.heap.objs.size + 3) .none .none -> h'.get? s.heap.objs.size = some { cls := .type c, data := .fields #[.ref l, .int 0 0] } -> h'.get? (s.heap.objs.size + 1) = some { cls := .type d, data := .fields #[.ref m, .int 0 0] } ->
      (∀ b o, s.heap.get? b = some o -> h'.get? b = some o) -> Q (.ref (s.heap.objs.size + 4)) { s with heap := h' }) ->
    wpAny (model prog w) A (call (.type "zip") [.ref l, .ref m]) Q E s
theorem zmk_of {c d : String} {P1 P2 : Heap -> Prop} {l m : Addr} (M : Meets (Builtin.«zip.__new__» ⟨[.type "zip", .ref l, .ref m], []⟩) (fun _ R s => P1 s.heap /\ P2 s.heap /\ R (.ok (.ret (.ref (zmD s.heap c d l m).objs.size))) { s with heap := zmE s.heap c d l m })) : ZMk c d P1 P2 l m := by
  intro prog w A E s Q p1 p2 h
  refine callType_new F.called_zip (by decide) (F.typeCall_zip_2 _ _) (F.newCall_zip_2 _ _) (fun ob => F.args_object_init_3 ob _ _) F.entry_zip_new M ⟨p1, p2, ?_⟩
  have e1 : (zmA s.heap c l).objs.size = s.heap.objs.size + 1 := Heap.size_push ..
  have e2 : (zmB s.heap c d l m).objs.size = s.heap.objs.size + 2 := by rw [Heap.size_push, e1]
  have e3 : (zmC s.heap c d l m).objs.size = s.heap.objs.size + 3 := by rw [Heap.size_push, e2]
  have e4 : (zmD s.heap c d l m).objs.size = s.heap.objs.size + 4 := by rw [Heap.size_push, e3]
  have g5 : (zmE s.heap c d l m).get? (zmD s.heap c d l m).objs.size = some _ := Heap.get?_push_size _ rfl
  have g4 : (zmE s.heap c d l m).get? (zmC s.heap c d l m).objs.size = some _ := Heap.get?_push_of_some _ (Heap.get?_push_size _ rfl)
  have g3 : (zmE s.heap c d l m).get? (zmB s.heap c d l m).objs.size = some _ := Heap.get?_push_of_some _ (Heap.get?_push_of_some _ (Heap.get?_push_size _ rfl))
  have g2 : (zmE s.heap c d l m).get? (zmA s.heap c l).objs.size = some _ := Heap.get?_push_of_some _ (Heap.get?_push_of_some _ (Heap.get?_push_of_some _ (Heap.get?_push_size _ rfl)))
  have g1 : (zmE s.heap c d l m).get? s.heap.objs.size = some _ := Heap.get?_push_of_some _ (Heap.get?_push_of_some _ (Heap.get?_push_of_some _ (Heap.get?_push_of_some _ (Heap.get?_push_size _ rfl))))
  show _ /\ _
  rw [e2, e3, e4] at g5
  rw [e1, e2] at g3
  rw [e3] at g4
  rw [e1] at g2
  rw [e4]
  exact ⟨⟨_, g5, rfl⟩, h _ g5 g3 g4 g1 g2 fun b o x => Heap.get?_push_of_some _ (Heap.get?_push_of_some _ (Heap.get?_push_of_some _ (Heap.get?_push_of_some _ (Heap.get?_push_of_some _ x))))⟩
theorem nin {a b c : Nat} (h1 : a ≠ b) (h2 : a ≠ c) : (a : Addr) ∉ ([b, c] : List Addr) := fun h => by
  rcases List.mem_cons.mp h with e | e
  · exact h1 e
  · exact h2 (List.mem_singleton.mp e)
theorem nne {a b : Nat} (h : a ≠ b) : (a : Addr) ≠ (b : Addr) := h
theorem za_new {n l m : Nat} (h1 : l < n) (h2 : m < n) : ZA (n + 4 : Nat) (n + 2 : Nat) (n + 3 : Nat) n (n + 1 : Nat) [n, l] [(n + 1 : Nat), m] :=
  ⟨List.mem_cons_self, List.mem_cons_self, nin (a := n + 4) (b := n) (c := l) (by omega) (by omega), nin (a := n + 4) (b := n + 1) (c := m) (by omega) (by omega), nin (a := n + 3) (b := n) (c := l) (by omega) (by omega), nin (a := n + 3) (b := n + 1) (c := m) (by omega) (by omega),
    nin (a := n) (b := n + 1) (c := m) (by omega) (by omega), nin (a := n + 1) (b := n) (c := l) (by omega) (by omega), nne (a := n + 2) (b := n + 4) (by omega), nne (a := n + 2) (b := n + 3) (by omega), nne (a := n + 2) (b := n) (by omega), nne (a := n + 2) (b := n + 1) (by omega), nne (a := n + 3) (b := n + 4) (by omega)⟩
end
noncomputable def iZip (Sq1 Sq2 : Addr -> Hp -> List V -> Prop) (ta : TA) : TI := fun σ H R => ta σ H fun vs H1 => ∃ a b, vs = [.ref a, .ref b] /\ (∃ xs, Sq1 a H1 xs) /\ (∃ ys, Sq2 b H1 ys) /\ R (ItZ (Sq1 a) (Sq2 b)) H1
noncomputable abbrev SqTa (K : PySem.W.Frag) : Addr -> Hp -> List V -> Prop := fun a H xs => SqT K H a xs
section
variable {X : Cx} {elts : List Expr} {k : Nat} {pos' : Pos} {a b : Expr} {ta : TA} {p pos : Pos}
end
theorem for_zip {Sq1 Sq2 : Hp -> List V -> Prop} {xs ys : List V} {g : TG} {tb : TS} {D : Ends} {σ : St} {H : Hp} (Pv : Nat -> St -> Hp -> Prop) (hlen : xs.length = ys.length) (h0 : Pv 0 σ H) (hl : ∀ i σ H, i <= xs.length -> Pv i σ H -> Sq1 H xs /\ Sq2 H ys)
    (hs : ∀ i x y σ H T, xs[i]? = some x -> ys[i]? = some y -> Pv i σ H -> H T = none -> g (.ref T) σ (upd H T (.tup [x, y])) fun σ2 H2 => tb { D with nx := Pv (i + 1), ct := Pv (i + 1), bk := D.nx } σ2 H2) (hd : ∀ σ H, Pv xs.length σ H -> D.nx σ H) :
    ∃ W : Nat -> Nat -> St -> Hp -> Prop, (∃ m, W 0 m σ H) /\ ∀ i m σ H, W i m σ H ->
      ((ItZ Sq1 Sq2).stop i H /\ D.nx σ H) \/ ((ItZ Sq1 Sq2).go i H /\ ∃ N : St -> Hp -> Prop, (∀ σ' H', N σ' H' -> ∃ m', m' < m /\ W (i + 1) m' σ' H') /\ ∀ x H', (ItZ Sq1 Sq2).yld i H x H' -> g x σ H' fun σ2 H2 => tb { D with nx := N, ct := N, bk := D.nx } σ2 H2) := by
  refine ⟨fun i m σ H => m = xs.length - i /\ i <= xs.length /\ Pv i σ H, ⟨xs.length, by simp, Nat.zero_le _, h0⟩, ?_⟩
  rintro i m σ H ⟨rfl, hi, p⟩
  obtain ⟨q1, q2⟩ := hl i σ H hi p
  by_cases hlt : i < xs.length
  · have hlt2 : i < ys.length := by omega
    refine .inr ⟨⟨xs, ys, xs[i], ys[i], q1, q2, by simp [hlt], by simp [hlt2]⟩, Pv (i + 1), fun σ' H' p' => ⟨xs.length - (i + 1), by omega, rfl, hlt, p'⟩, fun x H' y => ?_⟩
    obtain ⟨T, u, v, hu, hv, rfl, hn, rfl⟩ := y
    exact hs i u v σ _ T (hu xs q1) (hv ys q2) p hn
  · have e : i = xs.length := by omega
    subst e
    exact .inl ⟨⟨xs, q1, ⟨ys, q2⟩, rfl⟩, hd σ H p⟩
theorem comp_zip {Sq1 Sq2 : Hp -> List V -> Prop} {xs ys : List V} {σc : St} {g : TG} {tc : TT} {te : TE} {Q : VK} {H1 : Hp} (Pv : Nat -> List V -> Hp -> Prop) (hlen : xs.length = ys.length) (hn : xs.length < sizeLine) (hl : ∀ i acc H, Pv i acc H -> Sq1 H xs /\ Sq2 H ys) (h0 : Pv 0 [] H1)
    (hs : ∀ (i : Nat) (x y : V) (acc : List V) (H : Hp) (T : Addr) (Nx : List V -> Hp -> Prop), xs[i]? = some x -> ys[i]? = some y -> acc.length <= i -> Pv i acc H -> H T = none -> (∀ acc' H', acc'.length <= i + 1 -> Pv (i + 1) acc' H' -> Nx acc' H') ->
      g (.ref T) σc (upd H T (.tup [x, y])) fun σ2 H2 => Wk σc σ2 /\ tc σ2 H2 fun b H3 => if b = true then te σ2 H3 fun v H4 => Nx (acc ++ [v]) H4 else Nx acc H3)
    (hd : ∀ acc H D, acc.length <= xs.length -> Pv xs.length acc H -> H D = none -> Q (.ref D) (upd H D (.lst acc))) : CompW (ItZ Sq1 Sq2) σc g tc te Q H1 := by
  refine ⟨fun i m acc H => m = xs.length - i /\ i <= xs.length /\ acc.length <= i /\ Pv i acc H, ⟨xs.length, by simp, Nat.zero_le _, Nat.le_refl _, h0⟩, ?_⟩
  rintro i m acc H ⟨rfl, hi, hl', p⟩
  obtain ⟨q1, q2⟩ := hl i acc H p
  refine ⟨by omega, ?_⟩
  by_cases hlt : i < xs.length
  · have hlt2 : i < ys.length := by omega
    refine .inr ⟨⟨xs, ys, xs[i], ys[i], q1, q2, by simp [hlt], by simp [hlt2]⟩, fun x H' y => ?_⟩
    obtain ⟨T, u, v, hu, hv, rfl, hT, rfl⟩ := y
    exact hs i u v acc _ T (fun acc' H' => ∃ m', m' < xs.length - i /\ (m' = xs.length - (i + 1) /\ i + 1 <= xs.length /\ acc'.length <= i + 1 /\ Pv (i + 1) acc' H')) (hu xs q1) (hv ys q2) hl' p hT fun acc' H' h1 h2 => ⟨xs.length - (i + 1), by omega, rfl, hlt, h1, h2⟩
  · have e : i = xs.length := by omega
    subst e
    exact .inl ⟨⟨xs, q1, ⟨ys, q2⟩, rfl⟩, fun D hD => hd acc H D hl' p hD⟩
end L2
namespace L2
open PySem PySem.Spec PyProof.Rows
section
variable {X : Cx}
end
end L2
namespace L2
open PySem PySem.Spec PyProof.Rows PySem.MeetsSeq PySem.SeqAt
section
variable {X : Cx}
end
end L2
namespace L2
open PySem PySem.Spec PyProof.Rows
end L2
namespace L2
open PySem PySem.Spec PyProof.Rows
structure ZT (P : Program) (w : World) (K : PySem.W.Frag) (fp : List Addr) (it : Addr) (Sq : Hp -> List V -> Prop) (IT : Nat -> Heap -> Prop) : Prop where
  obj : ∀ i h, IT i h -> ∃ o, h.get? it = some o /\ ∀ v, o.data ≠ .cell v
  keep : ∀ i h h', IT i h -> (∀ o, h.get? it = some o -> h'.get? it = some o) -> IT i h'
  inj : ∀ (X : Cx), X.K = K -> ∀ (pins : List (Addr × Obj)) (s : Shared) (σ : St) (H : Hp), Inv X pins σ H s -> ∀ xs ys, Sq H xs -> Sq H ys -> xs = ys
  draws : ∀ (X : Cx), X.prog = P -> X.w = w -> X.K = K -> X.calm = true -> ∀ (pins : List (Addr × Obj)) (s : Shared) (σ : St) (H : Hp), Inv X pins σ H s -> ∀ xs, Sq H xs ->
    ∃ (PP : Nat -> Value -> Prop) (SS : Nat -> Heap -> Prop), (∀ i x v, xs[i]? = some x -> PP i v -> RelV x v) /\ Draws P w X.A.in1 it fp xs.length PP SS /\ (∀ i, IT i s.heap -> SS i s.heap) /\ ∀ i h, SS i h -> IT i h
theorem ZS.zt {P : Program} {w : World} {K : PySem.W.Frag} {a it : Addr} {Sq : Hp -> List V -> Prop} {IT : Nat -> Heap -> Prop} (Z : ZS P w K a it Sq IT) (ne : a ≠ it) : ZT P w K [it, a] it Sq IT where
  obj := Z.obj
  keep := Z.keep
  inj := Z.inj
  draws := fun X hP hw hK hc pins s σ H I xs hq => by
    obtain ⟨its, SS, rv, D, h1, h2⟩ := Z.draws X hP hw hK hc pins s σ H I xs hq ne
    rw [<- rv.length] at D
    refine ⟨_, SS, fun i x v hx hv => ?_, D, h1, h2⟩
    obtain ⟨u, hu, ru⟩ := rv.get hx
    have : v = u := Option.some.inj (hv.symm.trans hu)
    rw [this]; exact ru
theorem zt_str {P : Program} {w : World} {K : PySem.W.Frag} (it : Addr) (l : List Nat) (t : Tok) : ZT P w K [it] it (fun _ xs => xs = sgs l) (fun i h => h.IsStrIter it (strIterType (S l)) (S l) t i) where
  obj := fun i h st => by
    obtain ⟨o, ho, hc, hd⟩ := st
    exact ⟨o, ho, fun v z => by rw [hd] at z; cases z⟩
  keep := fun i h h' st k => by
    obtain ⟨o, ho, r⟩ := st
    exact ⟨o, k o ho, r⟩
  inj := fun X hK pins s σ H I xs ys h1 h2 => h1.trans h2.symm
  draws := fun X hP hw hK hc pins s σ H I xs hq => by
    subst hP hw hK hq
    have rel : ∀ i x v, (sgs l)[i]? = some x -> (∃ (c : Nat) (u : Tok), (S l).cps[i]? = some c /\ v = Value.str ⟨#[c]⟩ u) -> RelV x v := fun i x v hx hh => by
      obtain ⟨c, u, e1, e2⟩ := hh
      obtain ⟨d, hd, rfl⟩ := sgs_get hx
      have e3 : l[i]? = some c := by rw [<- e1]; show l[i]? = l.toArray[i]?; exact (List.getElem?_toArray ..).symm
      rw [hd] at e3; cases e3
      exact ⟨u, e2⟩
    have e : (S l).cps.size = (sgs l).length := by rw [S_size, sgs_len]
    by_cases ha : (S l).cps.all (· < 128) = true
    · have et : strIterType (S l) = "str_ascii_iterator" := by unfold strIterType; rw [if_pos ha]
      have D := Draws.strAscii (prog := X.prog) (w := X.w) (A := X.A.in1) (I.ok.hd hc) it (S l) t
      rw [e] at D
      exact ⟨_, _, rel, D, fun i h => by rw [et] at h; exact h, fun i h z => by rw [et]; exact z⟩
    · have et : strIterType (S l) = "str_iterator" := by unfold strIterType; rw [if_neg ha]
      have D := Draws.strWide (prog := X.prog) (w := X.w) (A := X.A.in1) (I.ok.hd hc) it (S l) t
      rw [e] at D
      exact ⟨_, _, rel, D, fun i h => by rw [et] at h; exact h, fun i h z => by rw [et]; exact z⟩
theorem turn_zipT {P : Program} {w : World} {K : PySem.W.Frag} {elts : List Expr} {k : Nat} {pos : Pos} {z TI TO i1 i2 : Addr} {f1 f2 : List Addr} {Sq1 Sq2 : Hp -> List V -> Prop} {I1 I2 : Nat -> Heap -> Prop}
    (W1 : ZT P w K f1 i1 Sq1 I1) (W2 : ZT P w K f2 i2 Sq2 I2) (Z : ZA z TI TO i1 i2 f1 f2) :
    Turn P w K (.Tuple elts k pos) (ItZ Sq1 Sq2) [z, TI, TO, i1, i2] z (fun i h => IsZip h z TI TO .none /\ IsPair h TI (.ref i1) (.ref i2) /\ (∃ a b, IsPair h TO a b) /\ I1 i h /\ I2 i h) where
  mem := by simp
  obj := fun i h st b hb => by
    obtain ⟨q1, q2, ⟨a, b', q3⟩, q4, q5⟩ := st
    simp only [List.mem_cons, List.not_mem_nil, or_false] at hb
    rcases hb with g | g | g | g | g <;> rw [g]
    · exact ⟨_, q1, fun v z => by cases z⟩
    · exact ⟨_, q2, fun v z => by cases z⟩
    · exact ⟨_, q3, fun v z => by cases z⟩
    · exact W1.obj i h q4
    · exact W2.obj i h q5
  keep := fun i h h' st kp => by
    obtain ⟨q1, q2, ⟨a, b', q3⟩, q4, q5⟩ := st
    exact ⟨kp z (by simp) _ q1, kp TI (by simp) _ q2, ⟨a, b', kp TO (by simp) _ q3⟩, W1.keep _ _ _ q4 fun o e => kp i1 (by simp) o e, W2.keep _ _ _ q5 fun o e => kp i2 (by simp) o e⟩
  item := by
    intro X hP hw hK hc i pins s σ H E I hf st hg
    obtain ⟨q1, q2, ⟨a, b', q3⟩, q4, q5⟩ := st
    obtain ⟨xs, ys, x, y, hx, hy, gx, gy⟩ := hg
    obtain ⟨PX, SX, rx, DX, ux, vx⟩ := W1.draws X hP hw hK hc pins s σ H I xs hx
    obtain ⟨PY, SY, ry, DY, uy, vy⟩ := W2.draws X hP hw hK hc pins s σ H I ys hy
    have ij1 := W1.inj X hK pins s σ H I
    have ij2 := W2.inj X hK pins s σ H I
    subst hP hw hK
    refine nextZ_item DX DY Z q1 q2 q3 (ux i q4) (uy i q5) (List.getElem?_eq_some_iff.mp gx).1 (List.getElem?_eq_some_iff.mp gy).1 fun x2 y2 h' tk p1 p2 e1 e2 e3 e4 e5 e6 e7 => ⟨_, rfl, ?_⟩
    have ru := rx i x x2 gx p1
    have rw0 := ry i y y2 gy p2
    have lt : ∀ {c o}, s.heap.get? c = some o -> s.heap.objs.size ≠ c := fun e => Nat.ne_of_gt (Heap.lt_size e)
    obtain ⟨o1, g1⟩ := DX.live _ _ (ux i q4)
    obtain ⟨o2, g2⟩ := DY.live _ _ (uy i q5)
    have hTw : s.heap.objs.size ∉ [z, TI, TO, i1, i2] := by
      simp only [List.mem_cons, List.not_mem_nil, or_false, not_or]
      exact ⟨lt q1, lt q2, lt q3, lt g1, lt g2⟩
    refine wpAny_letOwnedTupleGo_zip e1 fun h2 z2 sb => ?_
    have kk : ∀ b o, b ∉ [z, TI, TO, i1, i2] -> s.heap.get? b = some o -> h2.get? b = some o := fun b o hb e => by
      simp only [List.mem_cons, List.not_mem_nil, or_false, not_or] at hb
      exact sb.extBut _ _ hb.1 (e7 b o hb.1 hb.2.2.1 hb.2.2.2.1 hb.2.2.2.2 e)
    have hTup2 : h2.IsTuple s.heap.objs.size #[x2, y2] := ⟨_, sb.extBut _ _ (lt q1) e5, rfl, _, rfl⟩
    refine ⟨.ref s.heap.objs.size, upd H s.heap.objs.size (.tup [x, y]), ?_, rfl, ⟨s.heap.objs.size, x, y, fun zs hzs => by rw [ij1 zs xs hzs hx]; exact gx, fun zs hzs => by rw [ij2 zs ys hzs hy]; exact gy, rfl, I.hok.fresh (Nat.le_refl _), rfl⟩,
      ⟨z2, sb.extBut _ _ Z.tz (e7 _ _ Z.tz Z.tt Z.t1 Z.t2 q2), ⟨_, _, sb.extBut _ _ Z.oz e2⟩, vx _ _ (DX.frame _ _ _ e3 fun c hc o e => sb.extBut _ _ (nm hc Z.z1) e), vy _ _ (DY.frame _ _ _ e4 fun c hc o e => sb.extBut _ _ (nm hc Z.z2) e)⟩, fun b hb => ?_⟩
    · refine I.turnLaid (t' := tk) (h' := h2) kk hf (Nat.le_refl _) ?_
      exact ⟨by show 2 <= sizeLine; decide, [x2, y2], .cons ru (.cons rw0 .nil), hTup2⟩
    · rw [upd_ne (fun q : b = s.heap.objs.size => hTw (q ▸ hb))]; exact (hf b hb).1
  done := by
    intro X hP hw hK hc i pins s σ H E I hf st hg
    obtain ⟨q1, q2, ⟨a, b', q3⟩, q4, q5⟩ := st
    obtain ⟨xs, hx, ⟨ys, hy⟩, el⟩ := hg
    obtain ⟨PX, SX, rx, DX, ux, vx⟩ := W1.draws X hP hw hK hc pins s σ H I xs hx
    subst hP hw hK
    subst el
    refine nextZ_end DX Z q1 q2 q3 (ux _ q4) fun h' hk => ⟨rfl, I.turnedL (t' := s.toks) (ch := [z, TI, TO, i1, i2]) (fun b o hb e => ?_) hf⟩
    simp only [List.mem_cons, List.not_mem_nil, or_false, not_or] at hb
    exact hk b o hb.1 hb.2.2.1 hb.2.2.2.1 hb.2.2.2.2 e
  self := fun _ _ s _ _ st h => wpAny_pyIter_zip st.1 h
noncomputable abbrev zsA (h : Heap) (x : Str) (t : Tok) : Heap := h.push { cls := .type (strIterType x), data := .fields #[.str x t, .int 0 0] }
noncomputable abbrev zsB (h : Heap) (x : Str) (t : Tok) (m : Addr) : Heap := zmA (zsA h x t) "tuple_iterator" m
noncomputable abbrev zsC (h : Heap) (x : Str) (t : Tok) (m : Addr) : Heap := (zsB h x t m).push { cls := .type "tuple", data := .seq #[.ref h.objs.size, .ref (zsA h x t).objs.size] }
noncomputable abbrev zsD (h : Heap) (x : Str) (t : Tok) (m : Addr) : Heap := (zsC h x t m).push { cls := .type "tuple", data := .seq #[.none, .none] }
noncomputable abbrev zsE (h : Heap) (x : Str) (t : Tok) (m : Addr) : Heap := (zsD h x t m).push { cls := .type "zip", data := .fields #[.none, .bool false, .bool false, .ref (zsB h x t m).objs.size, .ref (zsC h x t m).objs.size] }
set_option maxHeartbeats 4000000 in
theorem meets_zipST (x : Str) (t : Tok) (m : Addr) (ys : Array Value) : Meets (Builtin.«zip.__new__» ⟨[.type "zip", .str x t, .ref m], []⟩) (fun _ R s => s.heap.IsTuple m ys /\ R (.ok (.ret (.ref (zsD s.heap x t m).objs.size))) { s with heap := zsE s.heap x t m }) :=
  .of_wp fun prog w A R s h => by
    obtain ⟨hp, g, d, tk, os⟩ := s; obtain ⟨q2, h⟩ := h; have hsub := sub_zip
    have k2 : Heap.IsTuple (Shared.heap ⟨hp.push { cls := .type (strIterType x), data := .fields #[.str x t, .int 0 0] }, g, d, tk, os⟩) m ys := by
      obtain ⟨o, e, r⟩ := q2
      exact ⟨o, Heap.get?_push_of_some _ e, r⟩
    have k1 : ∀ {A' : Around} {E' : Value -> Shared -> Prop} {Q' : Value -> Shared -> Prop}, Q' (.ref hp.objs.size) ⟨hp.push { cls := .type (strIterType x), data := .fields #[.str x t, .int 0 0] }, g, d, tk, os⟩ -> wpAny (model prog w) A' (pyIter (.str x t)) Q' E' ⟨hp, g, d, tk, os⟩ := fun h => wpAny_pyIter_strU (s := ⟨hp, g, d, tk, os⟩) h
    wp_walk using k1, wpAny_pyIter_tuple k2
    exact ⟨_, rfl, h⟩
theorem zmk_ST (x : Str) (t : Tok) (m : Addr) (ys : Array Value) {prog : Program} {w : World} {A : Around} {E : Value -> Shared -> Prop} {s : Shared} {Q : Value -> Shared -> Prop} (p2 : s.heap.IsTuple m ys)
    (h : ∀ h', IsZip h' (s.heap.objs.size + 4) (s.heap.objs.size + 2) (s.heap.objs.size + 3) .none -> IsPair h' (s.heap.objs.size + 2) (.ref s.heap.objs.size) (.ref (s.heap.objs.size + 1)) ->
      IsPair h' (s.heap.objs.size + 3) .none .none -> h'.get? s.heap.objs.size = some { cls := .type (strIterType x), data := .fields #[.str x t, .int 0 0] } -> h'.get? (s.heap.objs.size + 1) = some { cls := .type "tuple_iterator", data := .fields #[.ref m, .int 0 0] } ->
      (∀ b o, s.heap.get? b = some o -> h'.get? b = some o) -> Q (.ref (s.heap.objs.size + 4)) { s with heap := h' }) :
    wpAny (model prog w) A (call (.type "zip") [.str x t, .ref m]) Q E s := by
  refine callType_new F.called_zip (by decide) (F.typeCall_zip_2 _ _) (F.newCall_zip_2 _ _) (fun ob => F.args_object_init_3 ob _ _) F.entry_zip_new (meets_zipST x t m ys) ⟨p2, ?_⟩
  have e1 : (zsA s.heap x t).objs.size = s.heap.objs.size + 1 := Heap.size_push ..
  have e2 : (zsB s.heap x t m).objs.size = s.heap.objs.size + 2 := by rw [Heap.size_push, e1]
  have e3 : (zsC s.heap x t m).objs.size = s.heap.objs.size + 3 := by rw [Heap.size_push, e2]
  have e4 : (zsD s.heap x t m).objs.size = s.heap.objs.size + 4 := by rw [Heap.size_push, e3]
  have g5 : (zsE s.heap x t m).get? (zsD s.heap x t m).objs.size = some _ := Heap.get?_push_size _ rfl
  have g4 : (zsE s.heap x t m).get? (zsC s.heap x t m).objs.size = some _ := Heap.get?_push_of_some _ (Heap.get?_push_size _ rfl)
  have g3 : (zsE s.heap x t m).get? (zsB s.heap x t m).objs.size = some _ := Heap.get?_push_of_some _ (Heap.get?_push_of_some _ (Heap.get?_push_size _ rfl))
  have g2 : (zsE s.heap x t m).get? (zsA s.heap x t).objs.size = some _ := Heap.get?_push_of_some _ (Heap.get?_push_of_some _ (Heap.get?_push_of_some _ (Heap.get?_push_size _ rfl)))
  have g1 : (zsE s.heap x t m).get? s.heap.objs.size = some _ := Heap.get?_push_of_some _ (Heap.get?_push_of_some _ (Heap.get?_push_of_some _ (Heap.get?_push_of_some _ (Heap.get?_push_size _ rfl))))
  show _ /\ _
  rw [e2, e3, e4] at g5
  rw [e1, e2] at g3
  rw [e3] at g4
  rw [e1] at g2
  rw [e4]
  exact ⟨⟨_, g5, rfl⟩, h _ g5 g3 g4 g1 g2 fun b o x => Heap.get?_push_of_some _ (Heap.get?_push_of_some _ (Heap.get?_push_of_some _ (Heap.get?_push_of_some _ (Heap.get?_push_of_some _ x))))⟩
theorem za_newS {n m : Nat} (h2 : m < n) : ZA (n + 4 : Nat) (n + 2 : Nat) (n + 3 : Nat) n (n + 1 : Nat) [n] [(n + 1 : Nat), m] := by
  have n1 : ∀ {a b : Nat}, a ≠ b -> (a : Addr) ∉ ([b] : List Addr) := fun h q => h (List.mem_singleton.mp q)
  exact ⟨List.mem_cons_self, List.mem_cons_self, n1 (a := n + 4) (by omega), nin (a := n + 4) (b := n + 1) (c := m) (by omega) (by omega), n1 (a := n + 3) (by omega), nin (a := n + 3) (b := n + 1) (c := m) (by omega) (by omega),
    nin (a := n) (b := n + 1) (c := m) (by omega) (by omega), n1 (a := n + 1) (by omega), nne (a := n + 2) (b := n + 4) (by omega), nne (a := n + 2) (b := n + 3) (by omega), nne (a := n + 2) (b := n) (by omega), nne (a := n + 2) (b := n + 1) (by omega), nne (a := n + 3) (b := n + 4) (by omega)⟩
section
variable {X : Cx} {elts : List Expr} {k : Nat} {pos' : Pos} {a b : Expr} {ta : TA} {p pos : Pos}
noncomputable abbrev SqSa (l : List Nat) : Hp -> List V -> Prop := fun _ xs => xs = sgs l
noncomputable def iZipST (K : PySem.W.Frag) (ta : TA) : TI := fun σ H R => ta σ H fun vs H1 => ∃ l b, vs = [.str (S l), .ref b] /\ (∃ ys, SqT K H1 b ys) /\ R (ItZ (SqSa l) (SqTa K b)) H1
theorem pi_zipST (K : PySem.W.Frag) (hK : X.K = K) (hg : Gl X "zip") (hm : X.mg "zip" = none) (ha : PA X [a, b] ta) (hs : starEach [a, b] X.env = [(false, eval a X.env), (false, eval b X.env)] := by rfl) (hs2 : starEach [b] X.env = [(false, eval b X.env)] := by rfl) :
    PI X (.Tuple elts k pos') (.Call (.Name "zip" p) [a, b] [] pos) (iZipST K ta) := by
  subst hK
  intro pins s σ H R I h
  refine Call_ (ld_blt I hg hm boot_zip (PyProof.Rows.callWith_type1 (thn (ha pos pins s σ H _ I h) fun us s1 ⟨vs, H1, I1, r1, q1⟩ => ?_) (by rw [hs, hs2]) (by rw [hs2]; rfl)))
  obtain ⟨l, v, rfl, ⟨ys, hy⟩, q⟩ := q1
  obtain ⟨u', v', rfl, ru, rv⟩ := vals2 r1
  obtain ⟨t, rfl⟩ := ru
  cases rv
  obtain ⟨yi, _, py, _⟩ := I1.tuple hy
  obtain ⟨oy, ey, _⟩ := id py
  have lv := Heap.lt_size ey
  refine zmk_ST (S l) t v yi.toArray py fun h' z1 z2 z3 z4 z5 kk => wpAny_pyIter_zip z1 ?_
  refine ⟨s1.heap.objs.size + 4, [s1.heap.objs.size + 4, s1.heap.objs.size + 2, s1.heap.objs.size + 3, s1.heap.objs.size, s1.heap.objs.size + 1], _, _, H1, rfl, I1.kept (t' := s1.toks) kk, turn_zipT (zt_str s1.heap.objs.size l t) ((zs_tup v (s1.heap.objs.size + 1)).zt (Nat.ne_of_lt (Nat.lt_succ_of_lt lv))) (za_newS lv),
    ⟨z1, z2, ⟨_, _, z3⟩, ⟨_, z4, rfl, rfl⟩, ⟨_, z5, rfl, rfl⟩⟩, fun e he => ?_, q⟩
  have he2 : s1.heap.objs.size <= e := by
    simp only [List.mem_cons, List.not_mem_nil, or_false] at he
    rcases he with g | g | g | g | g <;> rw [g] <;> omega
  exact I1.fpOk he2 (I1.hok.fresh he2)
end
end L2
set_option maxHeartbeats 1000000
namespace L2
open PySem PySem.Spec PyProof.Rows
section
variable {X : Cx}
end
end L2
namespace L2.F2
open PySem PySem.Spec PyProof.Rows
end L2.F2
namespace L2
open PySem PySem.Spec PyProof.Rows
section
variable {prog : Program} {w : World} {A : Around} {E : Value -> Shared -> Prop} {s : Shared}
noncomputable def IsRevT (h : Heap) (it a : Addr) (i : Int) : Prop := ∃ o, h.get? it = some o /\ o.cls = .type "reversed" /\ o.data = .fields #[.ref a, rawInt i]
end
section
variable {X : Cx} {tg : Expr}
end
end L2
set_option maxHeartbeats 1000000
namespace L2
open PySem PySem.Spec PyProof.Rows
section
variable {X : Cx}
noncomputable def rListD : List V -> Hp -> VK -> Prop := fun xs H Q => ∃ d kvs, xs = [.ref d] /\ H d = some (.dK kvs) /\ kvs.length <= 100000 /\ ∀ l, H l = none -> Q (.ref l) (upd H l (.lst (kvs.map fun kv => kV kv.1)))
theorem rel_of_is {P : Program} {w : World} {k : Key} {u : Value} (h : (mixKind P w).is k u = true) : RelV (kV k) u := by
  rcases keyIs_shape h with ⟨i, t, rfl, rfl⟩ | ⟨x, t, rfl, rfl⟩
  · exact ⟨t, rfl⟩
  · exact ⟨t, rfl⟩
theorem call_listD (hc : X.calm = true) : CallR X (.type "list") rListD := by
  intro pins s σ H xs us Q I r h
  obtain ⟨d, kvs, rfl, hd, hz, q⟩ := h
  obtain ⟨u, rfl, ru⟩ := vals1 r
  cases ru
  obtain ⟨z, lo, ws, kv, dd⟩ := dk_of I.hok hd
  obtain ⟨o, es, ep, ho, he, hdat, hk, hpr, hn⟩ := dd
  have hm : s.heap.DictAt (mixKind X.prog X.w) d ws ep := ⟨o, es, ho, he, hdat, hk, hpr, hn⟩
  have hlw : ws.length = kvs.length := kv.length.symm
  have hkeys := kv.keys
  have hs : (100000 : Nat) < sizeLine := by decide
  refine PySem.W.kdl_call (PySem.W.kdl_dict (knd := mixKind X.prog X.w) (kvs := ws) (ep := ep) lo) (I.ok.hd hc) hm (by omega) fun h' tk acc' c' hkp e hacc => ?_
  obtain ⟨h1, h2⟩ := hacc
  refine ⟨.ref s.heap.objs.size, _, I.laid (t' := tk) (o := .lst (kvs.map fun kv => kV kv.1)) hkp (Nat.le_refl _) ?_, rfl, q _ I.fresh⟩
  refine ⟨by rw [List.length_map]; omega, acc'.toList, c', ?_, by simpa using e⟩
  have gen : ∀ (l : List (Key × V)) (vs : List Value), vs.length = l.length -> (∀ (j : Nat) (v : Value), vs[j]? = some v -> ∃ k, (l.map (·.1))[j]? = some k /\ (mixKind X.prog X.w).is k v = true) -> Vals (l.map fun kv => kV kv.1) vs := by
    intro l
    induction l with
    | nil => intro vs hl _; cases vs with
      | nil => exact .nil
      | cons _ _ => cases hl
    | cons p l ih =>
      intro vs hl h
      cases vs with
      | nil => cases hl
      | cons v vs =>
        obtain ⟨k, hk, hi⟩ := h 0 v rfl
        cases hk
        exact .cons (rel_of_is hi) (ih vs (by simpa using hl) fun j w hj => by have := h (j + 1) w (by simpa using hj); simpa using this)
  refine gen kvs acc'.toList (by rw [<- hlw]; simpa using h1) fun j v ej => ?_
  obtain ⟨k, x, ek, ei⟩ := h2 j v (by simpa using ej)
  refine ⟨k, ?_, ei⟩
  rw [hkeys, List.getElem?_map, ek]
  rfl
theorem fits_nat {i : Nat} (h : (i : Int) < 2 ^ 63) : Builtin.List.listFitsIndex (i : Int) = true := by
  unfold Builtin.List.listFitsIndex
  rw [Bool.and_eq_true]
  exact ⟨decide_eq_true (by omega), decide_eq_true (by omega)⟩
noncomputable def rInsert : V -> List V -> Hp -> VK -> Prop := fun x vs H Q => ∃ (l : Addr) (xs : List V) (i : Nat) (y : V), x = .ref l /\ vs = [.int i, y] /\ H l = some (.lst xs) /\ i <= xs.length /\ xs.length < sizeLine /\ Q .non (upd H l (.lst (xs.take i ++ y :: xs.drop i)))
theorem mt_insert : MtM X "list.insert" rInsert := by
  intro pins s σ H x vs v us Q I rx rv h
  obtain ⟨l, xs, i, y, rfl, rfl, hH, hi, hz, q⟩ := h
  cases rx
  obtain ⟨a, b, rfl, ⟨t, rfl⟩, rb⟩ := vals2 rv
  obtain ⟨z, its, n, r, hl, e⟩ := I.lstM hH
  have hn := line63
  have hf : ¬ (!Builtin.List.listFitsIndex (i : Int)) = true := by rw [fits_nat (by omega)]; decide
  have hsz : its.toArray.size <= sizeLine := by rw [List.size_toArray]; omega
  generalize hI : (i : Int) = I' at hf
  have hm := PySem.AutoSeq1.list_insert_list_int_val_1 l its.toArray n I' t b hf hsz
  refine call_meets F.slot_list_insert ⟨_, e, rfl⟩ F.entry_list_insert (F.args_list_insert_3 _ _ _) hm ⟨e, ?_⟩
  clear hm
  refine ⟨.non, _, I.lset (its' := its.take i ++ b :: its.drop i) hH e ?_ ?_ ?_, rfl, q⟩
  · have e1 : (if I' < 0 then (I' + (its.toArray.size : Int)).toNat else min I'.toNat its.toArray.size) = i := by rw [<- hI, if_neg (by omega), Int.toNat_natCast, List.size_toArray]; omega
    show ((its.toArray.extract 0 (if I' < 0 then (I' + (its.toArray.size : Int)).toNat else min I'.toNat its.toArray.size)).push b ++ its.toArray.extract (if I' < 0 then (I' + (its.toArray.size : Int)).toNat else min I'.toNat its.toArray.size)) = _
    rw [e1]
    apply Array.toList_inj.mp
    simp
    exact List.take_of_length_le (by rw [List.length_drop]; exact Nat.le_refl _)
  · have h1 : Vals (xs.take i) (its.take i) := r.take i
    exact h1.append (.cons rb (r.drop i))
  · rw [List.length_append, List.length_cons, List.length_take, List.length_drop]; omega
noncomputable def rJoinT (K : PySem.W.Frag) : V -> List V -> Hp -> VK -> Prop := fun x vs H Q => ∃ (p : Addr) (ls : List (List Nat)), x = .str (S []) /\ vs = [.ref p] /\ SqT K H p (ls.map fun l => V.str (S l)) /\ (ls.map List.length).sum <= 16777216 /\ Q (.str (S ls.flatten)) H
theorem mt_joinT (K : PySem.W.Frag) (h : X.K = K) : MtR X "str.join" (rJoinT K) := by
  subst h
  intro pins s σ H x xs v us Q I rx rv h
  obtain ⟨p, ls, rfl, rfl, hq, hz, q⟩ := h
  obtain ⟨t, rfl⟩ := rx
  obtain ⟨u, rfl, ru⟩ := vals1 rv
  cases ru
  obtain ⟨its, r, pl, _⟩ := I.tuple hq
  have e : (S []).length = 0 := rfl
  refine join_tuple pl (by simpa using strsAre_of r) ?_ fun t' k => ?_
  · rw [e, Nat.mul_zero, Nat.add_zero, List.map_map]
    have e2 : (Str.length ∘ S) = List.length := by funext l; exact S_len l
    have e3 : ((fun x : Str => x.length) ∘ S) = List.length := by funext l; exact S_len l
    first | (rw [e2]; exact hz) | (rw [e3]; exact hz)
  · exact ⟨.str (S ls.flatten), H, I.tok _, ⟨t', congrArg (fun z => Value.str z t') (join_S ls)⟩, q⟩
noncomputable def tListRng1 (ta : TA) : TE := fun σ H Q => ta σ H fun vs H1 => ∃ j : Int, vs = [.int j] /\ -(2 ^ 61) <= j /\ j <= 1000000 /\ ∀ q, H1 q = none -> Q (.ref q) (upd H1 q (.lst ((List.range j.toNat).map fun (k : Nat) => V.int (0 + (k : Int)))))
noncomputable def tListRng2 (ta : TA) : TE := fun σ H Q => ta σ H fun vs H1 => ∃ i j : Int, vs = [.int i, .int j] /\ (-(2 ^ 61) <= i /\ i < 2 ^ 61 /\ -(2 ^ 61) <= j /\ j < 2 ^ 61) /\ j - i <= 1000000 /\ ∀ q, H1 q = none -> Q (.ref q) (upd H1 q (.lst ((List.range (j - i).toNat).map fun (k : Nat) => V.int (i + (k : Int)))))
theorem vals_rng {i : Int} : ∀ (n : Nat) (vs : List Value), vs.length = n -> (∀ (j : Nat) (v : Value), vs[j]? = some v -> ∃ t, v = .int (i + (j : Int) * 1) t) -> Vals ((List.range n).map fun (k : Nat) => V.int (i + (k : Int))) vs
  | 0, vs, hl, _ => by
    obtain rfl : vs = [] := List.length_eq_zero_iff.mp hl
    exact .nil
  | n + 1, vs, hl, h => by
    have e : vs = vs.take n ++ [vs[n]'(by omega)] := by
      conv => lhs; rw [<- List.take_length (l := vs), hl, List.take_succ_eq_append_getElem (by omega)]
    obtain ⟨t, ht⟩ := h n (vs[n]'(by omega)) (List.getElem?_eq_getElem _)
    rw [e, List.range_succ, List.map_append]
    refine (vals_rng n (vs.take n) (by rw [List.length_take]; omega) fun j w hj => h j w ?_).append (.cons ⟨t, ?_⟩ .nil)
    · have hj' := (List.getElem?_eq_some_iff.mp hj).1
      rw [List.length_take] at hj'
      rw [List.getElem?_take_of_lt (by omega)] at hj
      exact hj
    · rw [ht, Int.mul_one]
theorem list_rng {pins : List (Addr × Obj)} {σ : St} {H : Hp} {s : Shared} {Q : VK} {lo hi : Int} {t u v : Tok} {tk : Nat} (hc : X.calm = true) (I : Inv X pins σ H s) (h1 : -(2 ^ 61) <= lo) (h2 : lo < 2 ^ 61) (h3 : -(2 ^ 61) <= hi) (h4 : hi < 2 ^ 61) (hz : hi - lo <= 1000000)
    (q : ∀ p, H p = none -> Q (.ref p) (upd H p (.lst ((List.range (hi - lo).toNat).map fun (k : Nat) => V.int (lo + (k : Int)))))) :
    wpAny (model X.prog X.w) X.A (call (.type "list") [.ref s.heap.objs.size]) (EP X pins σ Q) X.xe { s with heap := s.heap.push { cls := .type "range", data := .fields #[.int lo t, .int hi u, .int 1 v] }, toks := tk } := by
  have hs : (1000000 : Nat) < sizeLine := by decide
  refine PySem.call_list_range (n := (hi - lo).toNat) (I.ok.hd hc) (IsRange.new ..) (small_one (by omega) (by omega) (by omega) (by omega)) (by rw [rangeSize_one]; split <;> omega) (by omega) fun h' tk' acc' c' hk e hacc => ?_
  obtain ⟨ha1, ha2⟩ := hacc
  have hsz : (s.heap.push { cls := .type "range", data := .fields #[.int lo t, .int hi u, .int 1 v] }).objs.size = s.heap.objs.size + 1 := Heap.size_push _ _
  refine ⟨.ref _, _, I.laid (t' := tk') (o := .lst ((List.range (hi - lo).toNat).map fun (k : Nat) => V.int (lo + (k : Int)))) (fun b o hb => hk b o (Heap.get?_push_of_some _ hb)) (Nat.le_of_lt (by show s.heap.objs.size < _; rw [hsz]; exact Nat.lt_succ_self _)) ?_, rfl, q _ (I.hok.fresh (Nat.le_of_lt (by show s.heap.objs.size < _; rw [hsz]; exact Nat.lt_succ_self _)))⟩
  exact ⟨by rw [List.length_map, List.length_range]; omega, acc'.toList, c', vals_rng _ _ (by simpa using ha1) (fun j v e => ha2 j v (by simpa using e)), by simpa using e⟩
theorem pe_listRng1 {a : Expr} {ta : TA} {p p2 pos pos2 : Pos} (hc : X.calm = true) (hgl : Gl X "list") (hml : X.mg "list" = none) (hg : Gl X "range") (hm : X.mg "range" = none) (ha : PA X [a] ta)
    (hs : starEach [a] X.env = [(false, eval a X.env)] := by rfl) (hs2 : starEach [.Call (.Name "range" p2) [a] [] pos2] X.env = [(false, eval (.Call (.Name "range" p2) [a] [] pos2) X.env)] := by rfl) :
    PE X (.Call (.Name "list" p) [.Call (.Name "range" p2) [a] [] pos2] [] pos) (tListRng1 ta) := by
  intro pins s σ H Q I h
  refine Call_ (ld_blt I hgl hml boot_list (PyProof.Rows.callWith_type1 ?_ hs2 rfl))
  rw [hs2]
  refine Calls.spliced_cons ?_
  refine Call_ (ld_blt I hg hm boot_range (PyProof.Rows.callWith_type1 (thn (ha pos2 pins s σ H _ I h) fun us s1 ⟨vs, H1, I1, r1, q1⟩ => ?_) hs rfl))
  obtain ⟨j, rfl, q1, q2, q⟩ := q1
  obtain ⟨u, rfl, t, rfl⟩ := vals1 r1
  refine call_range_1 ?_
  refine Calls.spliced_nil ?_
  refine list_rng hc I1 (by omega) (by omega) q1 (by omega) (by omega) (by simpa using q)
theorem pe_listRng2 {a b : Expr} {ta : TA} {p p2 pos pos2 : Pos} (hc : X.calm = true) (hgl : Gl X "list") (hml : X.mg "list" = none) (hg : Gl X "range") (hm : X.mg "range" = none) (ha : PA X [a, b] ta)
    (hs : starEach [a, b] X.env = [(false, eval a X.env), (false, eval b X.env)] := by rfl) (hs1 : starEach [b] X.env = [(false, eval b X.env)] := by rfl) (hs2 : starEach [.Call (.Name "range" p2) [a, b] [] pos2] X.env = [(false, eval (.Call (.Name "range" p2) [a, b] [] pos2) X.env)] := by rfl) :
    PE X (.Call (.Name "list" p) [.Call (.Name "range" p2) [a, b] [] pos2] [] pos) (tListRng2 ta) := by
  intro pins s σ H Q I h
  refine Call_ (ld_blt I hgl hml boot_list (PyProof.Rows.callWith_type1 ?_ hs2 rfl))
  rw [hs2]
  refine Calls.spliced_cons ?_
  refine Call_ (ld_blt I hg hm boot_range (PyProof.Rows.callWith_type1 (thn (ha pos2 pins s σ H _ I h) fun us s1 ⟨vs, H1, I1, r1, q1⟩ => ?_) (by rw [hs, hs1]) (by rw [hs1]; rfl)))
  obtain ⟨i, j, rfl, ⟨q1, q2, q3, q4⟩, q5, q⟩ := q1
  obtain ⟨u, u', rfl, ⟨t, rfl⟩, ⟨t', rfl⟩⟩ := vals2 r1
  refine call_range_2 ?_
  refine Calls.spliced_nil ?_
  exact list_rng hc I1 q1 q2 q3 q4 q5 q
end
end L2
namespace L2
open PySem PySem.Spec PyProof.Rows PySem.W
section
noncomputable def Ev (lt : Nat -> Nat -> Bool) (n : Nat) {α : Type} : KasT α -> (α -> Prop) -> Prop
  | .ret a, Q => Q a
  | .ask i j k, Q => i < n /\ j < n /\ Ev lt n (k (lt i j)) Q
structure Tot (lt : Nat -> Nat -> Bool) (n : Nat) : Prop where
  tr : ∀ a b c, lt b a = false -> lt c b = false -> lt c a = false
  sm : ∀ a b, lt a b = true -> lt b a = false
  tt : ∀ a b, a < n -> b < n -> a ≠ b -> lt a b = false -> lt b a = true
noncomputable def Pm (p : Array Nat) (n : Nat) : Prop := p.Perm (List.range n).toArray
section
variable {lt : Nat -> Nat -> Bool} {n : Nat}
end
end
section
variable {prog : Program} {w : World} {A : Around} {E : Value -> Shared -> Prop} {s : Shared}
end
section
variable {X : Cx}
end
end L2
namespace L2
open PySem PySem.Spec PyProof.Rows
noncomputable def Itd (lo : Int) (n : Nat) : It := ⟨fun i _ => i < n, fun i H x H' => H' = H /\ x = .int (lo - i), fun i _ => n <= i⟩
theorem turn_rangeD {P : Program} {w : World} {K : PySem.W.Frag} {tg : Expr} (it : Addr) (lo : Int) (n : Nat) : Turn P w K tg (Itd lo n) [it] it (fun i h => IsRangeIter h it (lo + (i : Nat) * (-1)) ((n : Int) - (i : Nat)) (-1)) where
  mem := by simp
  obj := fun i h st b hb => by
    have e : b = it := by simpa using hb
    subst e
    exact ⟨_, st, fun v z => by
      have z' : Data.fields _ = Data.cell v := z
      cases z'⟩
  keep := fun i h h' st k => k it (by simp) _ st
  item := by
    intro X hP hw hK hc i pins s σ H E I hf st hg
    subst hP hw hK
    obtain ⟨f0, f1, f2, f3, f4, f5⟩ := hf it (by simp)
    have W := Walks.range (prog := X.prog) (w := X.w) (I.ok.hd hc) it lo (-1) n
    refine W.item i s _ _ hg st fun v h' tk hv st' kk => ?_
    obtain ⟨t, rfl⟩ := hv
    have I1 : Inv X pins σ H { s with heap := h', toks := tk } := I.turned (fun b o hb e => kk b o (by simpa using hb) e) f0 f1 f3 f4 f5
    refine ⟨_, rfl, go_of (s := { s with heap := h', toks := tk }) (n := "range_iterator") st' rfl rfl (by decide) ⟨.int (lo - i), H, I1, ⟨t, ?_⟩, ⟨rfl, rfl⟩, st', fun b hb => (hf b hb).1⟩⟩
    have e : lo + (i : Int) * (-1) = lo - (i : Int) := by omega
    rw [e]
  done := by
    intro X hP hw hK hc i pins s σ H E I hf st hg
    subst hP hw hK
    obtain ⟨f0, f1, f2, f3, f4, f5⟩ := hf it (by simp)
    exact wpAny_pyNext_range_end (I.ok.hd hc) st (by have : n <= i := hg; omega) fun h' eb => ⟨rfl, I.turned (t' := s.toks) (fun b o hb e => eb b o hb e) f0 f1 f3 f4 f5⟩
  self := fun _ _ _ _ _ st h => wpAny_pyIter_rangeiter st h
section
variable {X : Cx} {tg : Expr}
theorem range_itD {pins : List (Addr × Obj)} {σ : St} {H : Hp} {s : Shared} {R : It -> Hp -> Prop} {E : Value -> Shared -> Prop} {lo hi : Int} {t u v : Tok} {tk : Nat} (I : Inv X pins σ H s) (h1 : -(2 ^ 62) <= lo) (h2 : lo < 2 ^ 62) (h3 : -(2 ^ 62) <= hi) (h4 : hi < 2 ^ 62)
    (q : R (Itd lo (lo - hi).toNat) H) : wpAny (model X.prog X.w) X.A (pyIter (.ref s.heap.objs.size)) (PIE X pins σ tg R) E { s with heap := s.heap.push { cls := .type "range", data := .fields #[.int lo t, .int hi u, .int (-1) v] }, toks := tk } := by
  refine wpAny_pyIter_range (IsRange.new ..) (PySem.W.small_down h1 h2 h3 h4) ?_
  have I1 : Inv X pins σ H { s with heap := s.heap.push { cls := .type "range", data := .fields #[.int lo t, .int hi u, .int (-1) v] }, toks := tk } := I.kept fun b o e => Heap.get?_push_of_some _ e
  refine ⟨(s.heap.push { cls := .type "range", data := .fields #[.int lo t, .int hi u, .int (-1) v] }).objs.size, [(s.heap.push { cls := .type "range", data := .fields #[.int lo t, .int hi u, .int (-1) v] }).objs.size], _, _, H, rfl,
    I1.kept (t' := tk) fun b o e => Heap.get?_push_of_some _ e, turn_rangeD _ lo (lo - hi).toNat, ?_, fun b hb => ?_, q⟩
  · have e1 : lo + ((0 : Nat) : Int) * (-1) = lo := by simp
    have e2 : (((lo - hi).toNat : Nat) : Int) - ((0 : Nat) : Int) = Builtin.Range.rangeSize lo hi (-1) := by rw [PySem.W.rangeSize_downNat]; omega
    show IsRangeIter _ _ (lo + ((0 : Nat) : Int) * (-1)) ((((lo - hi).toNat : Nat) : Int) - ((0 : Nat) : Int)) (-1)
    rw [e1, e2]
    exact Heap.get?_push_size _ rfl
  · have e : b = (s.heap.push { cls := .type "range", data := .fields #[.int lo t, .int hi u, .int (-1) v] }).objs.size := by simpa using hb
    subst e
    exact I1.fpOk (Nat.le_refl _) (I1.hok.fresh (Nat.le_refl _))
noncomputable def iRngD (ta : TA) : TI := fun σ H R => ta σ H fun vs H1 => ∃ i j : Int, vs = [.int i, .int j, .int (-1)] /\ (-(2 ^ 62) <= i /\ i < 2 ^ 62 /\ -(2 ^ 62) <= j /\ j < 2 ^ 62) /\ R (Itd i (i - j).toNat) H1
theorem pi_rangeD {a b c : Expr} {ta : TA} {p pos : Pos} (hg : Gl X "range") (hm : X.mg "range" = none) (ha : PA X [a, b, c] ta) (hs : starEach [a, b, c] X.env = [(false, eval a X.env), (false, eval b X.env), (false, eval c X.env)] := by rfl)
    (hs2 : starEach [b, c] X.env = [(false, eval b X.env), (false, eval c X.env)] := by rfl) : PI X tg (.Call (.Name "range" p) [a, b, c] [] pos) (iRngD ta) := by
  intro pins s σ H R I h
  refine Call_ (ld_blt I hg hm boot_range (PyProof.Rows.callWith_type1 (thn (ha pos pins s σ H _ I h) fun us s1 ⟨vs, H1, I1, r1, q1⟩ => ?_) (by rw [hs, hs2]) (by rw [hs2]; rfl)))
  obtain ⟨i, j, e, ⟨q1, q2, q3, q4⟩, q⟩ := q1
  subst e
  cases r1 with
  | cons r rr =>
    cases rr with
    | cons r' rr =>
      cases rr with
      | cons r'' rr =>
        cases rr
        obtain ⟨t, rfl⟩ := r
        obtain ⟨t', rfl⟩ := r'
        obtain ⟨t'', rfl⟩ := r''
        exact call_range_3 (by decide) (range_itD I1 q1 q2 q3 q4 q) (Or.inl (PyProof.noPylong_of_log2 (by decide +kernel)))
end
theorem for_rangeD {lo : Int} {n : Nat} {g : TG} {tb : TS} {D : Ends} {σ : St} {H : Hp} (Pv : Nat -> St -> Hp -> Prop) (h0 : Pv 0 σ H)
    (hs : ∀ i σ H, i < n -> Pv i σ H -> g (.int (lo - i)) σ H fun σ2 H2 => tb { D with nx := Pv (i + 1), ct := Pv (i + 1), bk := D.nx } σ2 H2) (hd : ∀ σ H, Pv n σ H -> D.nx σ H) :
    ∃ W : Nat -> Nat -> St -> Hp -> Prop, (∃ m, W 0 m σ H) /\ ∀ i m σ H, W i m σ H ->
      ((Itd lo n).stop i H /\ D.nx σ H) \/ ((Itd lo n).go i H /\ ∃ N : St -> Hp -> Prop, (∀ σ' H', N σ' H' -> ∃ m', m' < m /\ W (i + 1) m' σ' H') /\ ∀ x H', (Itd lo n).yld i H x H' -> g x σ H' fun σ2 H2 => tb { D with nx := N, ct := N, bk := D.nx } σ2 H2) := by
  refine ⟨fun i m σ H => m = n - i /\ i <= n /\ Pv i σ H, ⟨n, by simp, Nat.zero_le _, h0⟩, ?_⟩
  rintro i m σ H ⟨rfl, hi, p⟩
  by_cases hlt : i < n
  · refine .inr ⟨hlt, Pv (i + 1), fun σ' H' p' => ⟨n - (i + 1), by omega, rfl, hlt, p'⟩, fun x H' y => ?_⟩
    obtain ⟨e, y⟩ := y
    subst e y
    exact hs i σ _ hlt p
  · have e : i = n := by omega
    subst e
    exact .inl ⟨Nat.le_refl _, hd σ H p⟩
noncomputable def ItRL (K : PySem.W.Frag) (a : Addr) (n : Nat) : It :=
  ⟨fun i H => ∃ xs x, SqL K H a xs /\ xs.length = n /\ xs.reverse[i]? = some x, fun i H x H' => H' = H /\ ∀ xs, SqL K H a xs -> xs.reverse[i]? = some x, fun i H => i = n⟩
theorem turn_revL {P : Program} {w : World} {K : PySem.W.Frag} {tg : Expr} (a it : Addr) (n : Nat) (hz : n <= sizeLine) : Turn P w K tg (ItRL K a n) [it] it (fun i h => i <= n /\ h.IsRevIter it a ((n : Int) - 1 - (i : Int))) where
  mem := by simp
  obj := fun i h st b hb => by
    have e : b = it := by simpa using hb
    subst e
    obtain ⟨_, o, e, c, d⟩ := st
    exact ⟨o, e, fun v z => by rw [d] at z; cases z⟩
  keep := fun i h h' st k => let ⟨q, o, e, r⟩ := st; ⟨q, o, k it (by simp) o e, r⟩
  item := by
    intro X hP hw hK hc i pins s σ H E I hf st hg
    subst hP hw hK
    obtain ⟨xs, x, hq, hl, hx⟩ := hg
    obtain ⟨its, rv, p, hz'⟩ := I.list hq
    have hrl := rv.length
    have hi : i < n := by have := (List.getElem?_eq_some_iff.mp hx).1; rw [List.length_reverse] at this; omega
    obtain ⟨f0, f1, f2, f3, f4, f5⟩ := hf it (by simp)
    obtain ⟨_, st⟩ := st
    have e : (n : Int) - 1 - (i : Int) = ((n - 1 - i : Nat) : Int) := by omega
    rw [e] at st
    rw [List.getElem?_reverse (by omega), hl] at hx
    obtain ⟨u, hu, ru⟩ := rv.get hx
    refine wpAny_pyNext_rev_item (items := its.toArray) (x := u) st p.isList (by simpa using hu) fun h' st' sb => ?_
    have I1 : Inv X pins σ H { s with heap := h' } := I.turned (t' := s.toks) (fun b o hb e => (sb.2 b hb).trans e) f0 f1 f3 f4 f5
    obtain ⟨o, e1, cc, d⟩ := id st'
    refine ⟨u, rfl, go_of (s := { s with heap := h' }) e1 cc d (by decide) ⟨x, H, I1, ru, ⟨rfl, fun ys hy => ?_⟩, ⟨hi, ?_⟩, fun b hb => (hf b hb).1⟩⟩
    · rw [I.list_inj hy hq, List.getElem?_reverse (by omega), hl]; exact hx
    · have e2 : (n : Int) - 1 - ((i + 1 : Nat) : Int) = ((n - 1 - i : Nat) : Int) - 1 := by omega
      rw [e2]
      exact st'
  done := by
    intro X hP hw hK hc i pins s σ H E I hf st hg
    subst hP hw hK
    obtain ⟨f0, f1, f2, f3, f4, f5⟩ := hf it (by simp)
    obtain ⟨hi, st⟩ := st
    have hg' : i = n := hg
    have e : (n : Int) - 1 - (i : Int) = -1 := by omega
    rw [e] at st
    exact wpAny_pyNext_rev_end (I.ok.hd hc) st fun h' eb => ⟨rfl, I.turned (t' := s.toks) (fun b o hb e => eb b o hb e) f0 f1 f3 f4 f5⟩
  self := fun _ _ _ _ _ st h => wpAny_pyIter_revIter st.2 h
section
variable {X : Cx} {tg : Expr}
noncomputable def iRevL (K : PySem.W.Frag) (ta : TA) : TI := fun σ H R => ta σ H fun vs H1 => ∃ a xs, vs = [.ref a] /\ SqL K H1 a xs /\ R (ItRL K a xs.length) H1
theorem pi_revL (K : PySem.W.Frag) (hK : X.K = K) {a : Expr} {ta : TA} {p pos : Pos} (hg : Gl X "reversed") (hm : X.mg "reversed" = none) (ha : PA X [a] ta) (hs : starEach [a] X.env = [(false, eval a X.env)] := by rfl) : PI X tg (.Call (.Name "reversed" p) [a] [] pos) (iRevL K ta) := by
  subst hK
  intro pins s σ H R I h
  refine Call_ (ld_blt I hg hm boot_reversed (PyProof.Rows.callWith_type1 (thn (ha pos pins s σ H _ I h) fun us s1 ⟨vs, H1, I1, r1, q1⟩ => ?_) hs rfl))
  obtain ⟨b, xs, rfl, hq, q⟩ := q1
  obtain ⟨u, rfl, ru⟩ := vals1 r1
  cases (show u = Value.ref b from ru)
  obtain ⟨its, rv, pl, hz⟩ := I1.list hq
  have hl := rv.length
  have hsz : its.toArray.size = xs.length := by rw [List.size_toArray]; omega
  refine call_reversed_list pl.isList ?_
  rw [hsz]
  have hit : (s1.heap.push (revObj b ((xs.length : Int) - 1))).IsRevIter s1.heap.objs.size b ((xs.length : Int) - 1) := ⟨_, Heap.get?_push_size _ rfl, rfl, rfl⟩
  refine wpAny_pyIter_revIter hit ?_
  refine ⟨s1.heap.objs.size, [s1.heap.objs.size], _, _, H1, rfl, I1.kept (t' := s1.toks) fun b o e => Heap.get?_push_of_some _ e, turn_revL b _ xs.length hz, ⟨Nat.zero_le _, ?_⟩, fun b hb => ?_, q⟩
  · have e : (xs.length : Int) - 1 - ((0 : Nat) : Int) = (xs.length : Int) - 1 := by simp
    rw [e]
    exact hit
  · have e : b = s1.heap.objs.size := by simpa using hb
    subst e
    exact I1.fpOk (Nat.le_refl _) (I1.hok.fresh (Nat.le_refl _))
end
theorem for_revL {K : PySem.W.Frag} {a : Addr} {xs : List V} {g : TG} {tb : TS} {D : Ends} {σ : St} {H : Hp} (Pv : Nat -> St -> Hp -> Prop) (h0 : Pv 0 σ H) (hl : ∀ i σ H, i <= xs.length -> Pv i σ H -> SqL K H a xs)
    (hs : ∀ i x σ H, xs.reverse[i]? = some x -> Pv i σ H -> g x σ H fun σ2 H2 => tb { D with nx := Pv (i + 1), ct := Pv (i + 1), bk := D.nx } σ2 H2) (hd : ∀ σ H, Pv xs.length σ H -> D.nx σ H) :
    ∃ W : Nat -> Nat -> St -> Hp -> Prop, (∃ m, W 0 m σ H) /\ ∀ i m σ H, W i m σ H ->
      ((ItRL K a xs.length).stop i H /\ D.nx σ H) \/ ((ItRL K a xs.length).go i H /\ ∃ N : St -> Hp -> Prop, (∀ σ' H', N σ' H' -> ∃ m', m' < m /\ W (i + 1) m' σ' H') /\ ∀ x H', (ItRL K a xs.length).yld i H x H' -> g x σ H' fun σ2 H2 => tb { D with nx := N, ct := N, bk := D.nx } σ2 H2) := by
  refine ⟨fun i m σ H => m = xs.length - i /\ i <= xs.length /\ Pv i σ H, ⟨xs.length, by simp, Nat.zero_le _, h0⟩, ?_⟩
  rintro i m σ H ⟨rfl, hi, p⟩
  have q := hl i σ H hi p
  by_cases hlt : i < xs.length
  · refine .inr ⟨⟨xs, xs.reverse[i]'(by rw [List.length_reverse]; exact hlt), q, rfl, List.getElem?_eq_getElem _⟩, Pv (i + 1), fun σ' H' p' => ⟨xs.length - (i + 1), by omega, rfl, hlt, p'⟩, fun x H' y => ?_⟩
    obtain ⟨e, y⟩ := y
    subst e
    exact hs i x σ _ (y xs q) p
  · have e : i = xs.length := by omega
    subst e
    exact .inl ⟨rfl, hd σ H p⟩
end L2
namespace L2
open PySem PySem.Spec PyProof.Rows PySem.MeetsSeq PySem.SeqAt
section
variable {X : Cx}
noncomputable def rIndexD (K : PySem.W.Frag) : V -> List V -> Hp -> VK -> Prop := fun x vs H Q => ∃ (p : Addr) (xs : List V) (v : V) (ds : List PyData) (d : PyData) (j : Nat), x = .ref p /\ vs = [v] /\ H p = some (.lst xs) /\ RdDs K H xs ds /\ RdD K H v d /\ (PyData.canLayAll0 ds = true /\ d.canLay0 = true) /\ d.depth <= 60 /\
  (∃ e, ds[j]? = some e /\ PyData.eqv e d = true) /\ (∀ m e, m < j -> ds[m]? = some e -> PyData.eqv e d = false) /\ Q (.int (j : Nat)) H
theorem mt_indexD {k : Nat} (K : PySem.W.Frag) (h : X.K = K) (hr : Room k X.A) : MtR X "list.index" (rIndexD K) := by
  subst h
  intro pins s σ H x vs v us Q I rx rv h
  obtain ⟨p, xs, y, ds, d, j, rfl, rfl, hH, rs, rd, ⟨l1, l2⟩, dp, ⟨ej, hej, yj⟩, no, q⟩ := h
  cases rx
  obtain ⟨u, rfl, ru⟩ := rv.one
  obtain ⟨z, its, n, r, hl, e⟩ := I.lstM hH
  obtain ⟨as, ra⟩ := rd.reads I ru
  obtain ⟨bs, rb⟩ := rs.reads I r
  have hu := hr.units
  have hz2 : sizeLine < 2 ^ 62 := by decide
  have hm : min (PyData.depthAll ds) d.depth <= 60 := Nat.le_trans (Nat.min_le_right _ _) dp
  have hmap : its.map (readOf s.heap) = ds := readsAll_map ds its bs l1 rb
  have hat : ∀ m (hm : m < its.toArray.size) (g : PyData), ds[m]? = some g -> PyData.eqv (readOf s.heap its.toArray[m]) d = PyData.eqv g d := fun m hm g hg => by
    rw [<- hmap, List.getElem?_map] at hg
    have hm2 : m < its.length := by rw [List.size_toArray] at hm; exact hm
    rw [List.getElem?_eq_getElem hm2] at hg
    have := Option.some.inj hg
    rw [List.getElem_toArray, this]
  have hlen : ds.length = its.length := by rw [<- hmap, List.length_map]
  have hj : j < its.toArray.size := by rw [List.size_toArray, <- hlen]; exact (List.getElem?_eq_some_iff.mp hej).1
  have hjz : j < sizeLine := by rw [List.size_toArray, <- hl] at hj; omega
  refine call_meets F.slot_list_index ⟨_, e, rfl⟩ F.entry_list_index (F.args_list_index_2 _ _) (SeqAt.list_indexAt p its.toArray n none #[] u (fun w => PyData.eqv (readOf s.heap w) d) j hj (by omega) (by rw [hat j hj ej hej]; exact yj) ?_) ⟨e, ?_, ?_⟩
  · intro m hm hlt
    have hm2 : m < ds.length := by rw [hlen]; rw [List.size_toArray] at hm; exact hm
    rw [hat m hm ds[m] (List.getElem?_eq_getElem hm2)]
    exact no m _ hlt (List.getElem?_eq_getElem hm2)
  · exact items_eqAt (by simpa using rb) ra l1 l2 (by omega)
  · exact ⟨.int (j : Nat), H, I.tok _, ⟨_, rfl⟩, q⟩
end
end L2
namespace L2
open PySem PySem.Spec PyProof.Rows
noncomputable abbrev IsZipF (h : Heap) (z TI TO : Addr) (f0 : Value) (f : Bool) : Prop :=
  h.get? z = some { cls := .type "zip", dict := none, data := .fields #[f0, .bool f, .bool false, .ref TI, .ref TO], slots := #[] }
noncomputable def ZSt (h : Heap) (z TI TO : Addr) : Prop := ∃ f0 f, IsZipF h z TI TO f0 f /\ (f0 = .none \/ ∃ a : Nat, f0 = rawInt a)
theorem ZSt.keep {h h' : Heap} {z TI TO : Addr} (x : ZSt h z TI TO) (k : ∀ o, h.get? z = some o -> h'.get? z = some o) : ZSt h' z TI TO := by
  obtain ⟨f0, f, e, g⟩ := x
  exact ⟨f0, f, k _ e, g⟩
section
variable {prog : Program} {w : World} {A : Around} {E : Value -> Shared -> Prop} {s : Shared}
variable {z TI TO i1 i2 : Addr} {f1 f2 : List Addr} {n1 n2 i : Nat} {P1 P2 : Nat -> Value -> Prop} {S1 S2 : Nat -> Heap -> Prop} {a b : Value}
theorem zip_alive {a : Addr} {Q : Option Obj -> Shared -> Prop} (h : Q (s.heap.get? a) s) : wpAny (model prog w) A (loadIfAlive a) Q E s := by
  exact fun _ _ _ => h
theorem zip_free {Q : Bool -> Shared -> Prop} {f0 : Value} {f : Bool} (hz : IsZipF s.heap z TI TO f0 f) (h0 : f0 = .none \/ ∃ a : Nat, f0 = rawInt a)
    (h : ∀ b h' f', IsZipF h' z TI TO f0 f' -> h'.objs.size = s.heap.objs.size -> (∀ c o, c ≠ z -> s.heap.get? c = some o -> h'.get? c = some o) -> Q b { s with heap := h' }) :
    wpAny (model prog w) A (Builtin.SmallTypes.ownedTupleIsFree (.ref z)) Q E s := by
  unfold Builtin.SmallTypes.ownedTupleIsFree
  refine wpAny_bind (m := field (.ref z) 0) (wpAny_field hz rfl (x := f0) rfl ?_)
  rcases h0 with rfl | ⟨a, rfl⟩
  · exact wpAny_pure (h true s.heap f hz rfl fun c o _ e => e)
  · show wpAny _ _ (loadIfAlive (a : Int).toNat >>= _) _ _ s
    refine wpAny_bind (zip_alive ?_)
    cases hg : s.heap.get? (a : Int).toNat with
    | none => exact wpAny_pure (h true s.heap f hz rfl fun c o _ e => e)
    | some o =>
      show wpAny _ _ (field (.ref z) 1 >>= _) _ _ s
      refine wpAny_bind (wpAny_field hz rfl (x := .bool f) rfl ?_)
      cases f with
      | true => exact wpAny_pure (h false s.heap true hz rfl fun c o _ e => e)
      | false =>
        show wpAny _ _ (setField (.ref z) 1 (.bool true) >>= fun _ => pure false) _ _ s
        refine wpAny_bind (wpAny_setField_rec hz (by simp) fun k1 zk1 sk1 => ?_)
        exact wpAny_pure (h false k1 true zk1 sk1.1 fun c o hc e => sk1.extBut _ _ hc e)
theorem zipF_item {Q : Value -> Shared -> Prop} (D1 : Draws prog w A i1 f1 n1 P1 S1) (D2 : Draws prog w A i2 f2 n2 P2 S2) (Z : ZA z TI TO i1 i2 f1 f2)
    (hz : ZSt s.heap z TI TO) (hTI : IsPair s.heap TI (.ref i1) (.ref i2)) (hTO : IsPair s.heap TO a b) (h1 : S1 i s.heap) (h2 : S2 i s.heap) (l1 : i < n1) (l2 : i < n2)
    (hQ : ∀ x y h' tk, P1 i x -> P2 i y -> ZSt h' z TI TO -> (∃ a b, IsPair h' TO a b) -> S1 (i + 1) h' -> S2 (i + 1) h' -> IsPair h' s.heap.objs.size x y ->
      (∀ c o, c ≠ z -> c ≠ TO -> c ≠ i1 -> c ≠ i2 -> s.heap.get? c = some o -> h'.get? c = some o) -> Q (.ref s.heap.objs.size) { s with heap := h', toks := tk }) :
    wpAny (model prog w) A (Builtin.«zip.__next__» ⟨[.ref z], []⟩) (fun fin s' => ∃ v, fin = .done (.ret v) /\ Q v s') E s := by
  obtain ⟨hp, g, d, tk0, os⟩ := s
  obtain ⟨f0, f, hz, h0⟩ := hz
  have i1z := nm Z.m1 Z.z1
  have i2z := nm Z.m2 Z.z2
  have i1o := nm Z.m1 Z.o1
  have i2o := nm Z.m2 Z.o2
  have i21 := nm Z.m2 Z.c1
  refine wpAny_bind (m := field (.ref z) 2) (wpAny_field hz rfl (x := .bool false) rfl ?_)
  refine wpAny_bind (m := field (.ref z) 3) (wpAny_field hz rfl (x := .ref TI) rfl ?_)
  refine wpAny_bind (m := seqItems? (.ref TI)) (wpAny_seqItems hTI rfl ?_)
  refine wpAny_bind (m := Builtin.SmallTypes.ownedTupleIsFree (.ref z)) ?_
  refine zip_free hz h0 fun b0 k0 f' zk0 sz0 sk0 => ?_
  replace sz0 : k0.objs.size = hp.objs.size := sz0
  replace sk0 : ∀ c o, c ≠ z -> hp.get? c = some o -> k0.get? c = some o := sk0
  have hTI0 : IsPair k0 TI (.ref i1) (.ref i2) := sk0 _ _ Z.tz hTI
  have hTO0 : IsPair k0 TO a b := sk0 _ _ Z.oz hTO
  have h10 : S1 i k0 := D1.frame _ _ _ h1 fun c hc o e => sk0 _ _ (nm hc Z.z1) e
  have h20 : S2 i k0 := D2.frame _ _ _ h2 fun c hc o e => sk0 _ _ (nm hc Z.z2) e
  cases b0 with
  | true =>
    simp only [if_true]
    refine wpAny_bind (wpAny_rule ?_); refine wpAny_bind (m := field (.ref z) 4) (wpAny_field zk0 rfl (x := .ref TO) rfl ?_)
    refine wpAny_bind (wpAny_setField_rec zk0 (by simp) fun k1 zk1 sk1 => ?_)
    replace zk1 : IsZipF k1 z TI TO .ellipsis f' := zk1
    replace sk1 : Heap.SameBut z k0 k1 := sk1
    refine wpAny_bind ?_; simp only [List.zipIdx_cons, List.zipIdx_nil, List.forIn_cons, List.forIn_nil]
    refine wpAny_bind (wpAny_bind (wpAny_onRaise ?_)); refine wpAny_bind (m := Builtin.SmallTypes.nextOf (.ref i1)) ?_
    refine D1.item i _ _ _ l1 (D1.frame _ _ _ h10 fun c hc o e => sk1.extBut _ _ (nm hc Z.z1) e) fun x k2 tk2 px st2 sk2 => wpAny_pure ?_
    replace sk2 : Heap.SameBut i1 k1 k2 := sk2
    have to2 : IsPair k2 TO a b := sk2.extBut _ _ (Ne.symm i1o) (sk1.extBut _ _ Z.oz hTO0)
    refine wpAny_bind (m := seqItems? (.ref TO)) (wpAny_seqItems to2 rfl ?_)
    refine wpAny_bind (wpAny_updateSeq_pair to2 fun k3 to3 sk3 => ?_)
    replace to3 : IsPair k3 TO x b := to3
    replace sk3 : Heap.SameBut TO k2 k3 := sk3
    refine wpAny_bind (wpAny_letGo (wpAny_pure ?_)); refine wpAny_bind (wpAny_bind (wpAny_onRaise ?_))
    refine wpAny_bind (m := Builtin.SmallTypes.nextOf (.ref i2)) ?_
    refine D2.item i _ _ _ l2 (D2.frame _ _ _ h20 fun c hc o e => sk3.extBut _ _ (nm hc Z.o2) (sk2.extBut _ _ (nm hc Z.c1) (sk1.extBut _ _ (nm hc Z.z2) e))) fun y k4 tk4 py st4 sk4 => wpAny_pure ?_
    replace sk4 : Heap.SameBut i2 k3 k4 := sk4
    have to4 : IsPair k4 TO x b := sk4.extBut _ _ (Ne.symm i2o) to3
    refine wpAny_bind (m := seqItems? (.ref TO)) (wpAny_seqItems to4 rfl ?_)
    refine wpAny_bind (wpAny_updateSeq_pair to4 fun k5 to5 sk5 => ?_)
    replace to5 : IsPair k5 TO x y := to5
    replace sk5 : Heap.SameBut TO k4 k5 := sk5
    refine wpAny_bind (wpAny_letGo (wpAny_pure (wpAny_pure ?_))); refine wpAny_bind (m := seqItems? (.ref TO)) (wpAny_seqItems to5 rfl ?_)
    refine wpAny_bind (wpAny_newTuple ?_)
    have sz : k5.objs.size = hp.objs.size := by rw [sk5.1, sk4.1, sk3.1, sk2.1, sk1.1, sz0]
    have z5 : IsZipF k5 z TI TO .ellipsis f' := sk5.extBut _ _ (Ne.symm Z.oz) (sk4.extBut _ _ (Ne.symm i2z) (sk3.extBut _ _ (Ne.symm Z.oz) (sk2.extBut _ _ (Ne.symm i1z) zk1)))
    have kp : ∀ c o, c ≠ z -> c ≠ TO -> c ≠ i1 -> c ≠ i2 -> hp.get? c = some o -> k5.get? c = some o := fun c o c1 c2 c3 c4 e => sk5.extBut _ _ c2 (sk4.extBut _ _ c4 (sk3.extBut _ _ c2 (sk2.extBut _ _ c3 (sk1.extBut _ _ c1 (sk0 _ _ c1 e)))))
    have s15 : S1 (i + 1) k5 := D1.frame _ _ _ st2 fun c hc o e => sk5.extBut _ _ (nm hc Z.o1) (sk4.extBut _ _ (nm hc Z.c2) (sk3.extBut _ _ (nm hc Z.o1) e))
    have s25 : S2 (i + 1) k5 := D2.frame _ _ _ st4 fun c hc o e => sk5.extBut _ _ (nm hc Z.o2) e
    have zl : z < k5.objs.size := Heap.lt_size z5
    refine wpAny_bind (m := Builtin.SmallTypes.ownedTupleHandOut (.ref z) (.ref k5.objs.size)) ?_
    have z6 : IsZipF (k5.push { cls := .type "tuple", data := .seq #[x, y] }) z TI TO .ellipsis f' := Heap.get?_push_of_some _ z5
    (unfold Builtin.SmallTypes.ownedTupleHandOut; refine wpAny_bind (wpAny_setField_rec z6 (by simp) fun k7 z7 s7 => ?_))
    replace z7 : IsZipF k7 z TI TO (rawInt k5.objs.size) f' := z7
    refine wpAny_setField_rec z7 (by simp) fun k8 z8 s8 => ?_
    replace z8 : IsZipF k8 z TI TO (rawInt k5.objs.size) false := z8
    have up : ∀ c o, c ≠ z -> k5.get? c = some o -> k8.get? c = some o := fun c o c1 e => s8.extBut _ _ c1 (s7.extBut _ _ c1 (Heap.get?_push_of_some _ e))
    have t8 : IsPair k8 k5.objs.size x y := s8.extBut _ _ (Nat.ne_of_gt zl) (s7.extBut _ _ (Nat.ne_of_gt zl) (Heap.get?_push_size _ rfl))
    rw [sz] at t8
    refine wpAny_pure ⟨_, rfl, ?_⟩
    show Q (.ref k5.objs.size) _
    rw [sz]
    exact hQ x y k8 tk4 px py ⟨_, _, z8, .inr ⟨_, rfl⟩⟩ ⟨_, _, up _ _ Z.oz to5⟩ (D1.frame _ _ _ s15 fun c hc o e => up c o (nm hc Z.z1) e) (D2.frame _ _ _ s25 fun c hc o e => up c o (nm hc Z.z2) e) t8 fun c o c1 c2 c3 c4 e => up c o c1 (kp c o c1 c2 c3 c4 e)
  | false =>
    simp only [Bool.false_eq_true, if_false]
    refine wpAny_bind ?_
    rw [<- Array.forIn_toList]
    simp only [List.forIn_cons, List.forIn_nil]
    refine wpAny_bind (wpAny_bind (wpAny_holding ?_)); refine wpAny_bind (m := Builtin.SmallTypes.nextOf (.ref i1)) ?_
    refine D1.item i _ _ _ l1 h10 fun x k2 tk2 px st2 sk2 => wpAny_pure (wpAny_pure ?_)
    replace sk2 : Heap.SameBut i1 k0 k2 := sk2
    refine wpAny_bind (wpAny_bind (wpAny_holding ?_)); refine wpAny_bind (m := Builtin.SmallTypes.nextOf (.ref i2)) ?_
    refine D2.item i _ _ _ l2 (D2.frame _ _ _ h20 fun c hc o e => sk2.extBut _ _ (nm hc Z.c1) e) fun y k4 tk4 py st4 sk4 => wpAny_pure (wpAny_pure (wpAny_pure ?_))
    replace sk4 : Heap.SameBut i2 k2 k4 := sk4
    show wpAny _ _ (newTuple [x, y] >>= _) _ _ _
    refine wpAny_bind (wpAny_newTuple ?_)
    have sz : k4.objs.size = hp.objs.size := by rw [sk4.1, sk2.1, sz0]
    refine wpAny_pure ⟨_, rfl, ?_⟩
    show Q (.ref k4.objs.size) _
    have up : ∀ c o, k4.get? c = some o -> (k4.push { cls := .type "tuple", data := .seq #[x, y] }).get? c = some o := fun c o e => Heap.get?_push_of_some _ e
    have z4 : IsZipF k4 z TI TO f0 f' := sk4.extBut _ _ (Ne.symm i2z) (sk2.extBut _ _ (Ne.symm i1z) zk0)
    have o4 : IsPair k4 TO a b := sk4.extBut _ _ (Ne.symm i2o) (sk2.extBut _ _ (Ne.symm i1o) hTO0)
    have t8 : IsPair (k4.push { cls := .type "tuple", data := .seq #[x, y] }) k4.objs.size x y := Heap.get?_push_size _ rfl
    rw [sz] at t8
    have e0 : Value.ref k4.objs.size = Value.ref hp.objs.size := by rw [sz]
    rw [e0]
    exact hQ x y _ tk4 px py ⟨_, _, up _ _ z4, h0⟩ ⟨_, _, up _ _ o4⟩ (D1.frame _ _ _ st2 fun c hc o e => up c o (sk4.extBut _ _ (nm hc Z.c2) e)) (D2.frame _ _ _ st4 fun c hc o e => up c o e) t8 fun c o c1 c2 c3 c4 e => up c o (sk4.extBut _ _ c4 (sk2.extBut _ _ c3 (sk0 _ _ c1 e)))
theorem zipF_end {Q : Fin -> Shared -> Prop} (D1 : Draws prog w A i1 f1 n1 P1 S1) (Z : ZA z TI TO i1 i2 f1 f2)
    (hz : ZSt s.heap z TI TO) (hTI : IsPair s.heap TI (.ref i1) (.ref i2)) (h1 : S1 n1 s.heap)
    (hE : ∀ h' e, (∀ c o, c ≠ z -> c ≠ TO -> c ≠ i1 -> c ≠ i2 -> s.heap.get? c = some o -> h'.get? c = some o) -> (∃ o, h'.get? e = some o /\ o.cls = .type "StopIteration") -> E (.ref e) { s with heap := h' }) :
    wpAny (model prog w) A (Builtin.«zip.__next__» ⟨[.ref z], []⟩) Q E s := by
  obtain ⟨hp, g, d, tk0, os⟩ := s
  obtain ⟨f0, f, hz, h0⟩ := hz
  have i1z := nm Z.m1 Z.z1
  refine wpAny_bind (m := field (.ref z) 2) (wpAny_field hz rfl (x := .bool false) rfl ?_)
  refine wpAny_bind (m := field (.ref z) 3) (wpAny_field hz rfl (x := .ref TI) rfl ?_)
  refine wpAny_bind (m := seqItems? (.ref TI)) (wpAny_seqItems hTI rfl ?_)
  refine wpAny_bind (m := Builtin.SmallTypes.ownedTupleIsFree (.ref z)) ?_
  refine zip_free hz h0 fun b0 k0 f' zk0 sz0 sk0 => ?_
  replace sz0 : k0.objs.size = hp.objs.size := sz0
  replace sk0 : ∀ c o, c ≠ z -> hp.get? c = some o -> k0.get? c = some o := sk0
  have h10 : S1 n1 k0 := D1.frame _ _ _ h1 fun c hc o e => sk0 _ _ (nm hc Z.z1) e
  cases b0 with
  | true =>
    simp only [if_true]
    refine wpAny_bind (wpAny_rule ?_); refine wpAny_bind (m := field (.ref z) 4) (wpAny_field zk0 rfl (x := .ref TO) rfl ?_)
    refine wpAny_bind (wpAny_setField_rec zk0 (by simp) fun k1 zk1 sk1 => ?_)
    replace zk1 : IsZipF k1 z TI TO .ellipsis f' := zk1
    replace sk1 : Heap.SameBut z k0 k1 := sk1
    refine wpAny_bind ?_; simp only [List.zipIdx_cons, List.zipIdx_nil, List.forIn_cons, List.forIn_nil]
    refine wpAny_bind (wpAny_bind (wpAny_onRaise ?_)); refine wpAny_bind (m := Builtin.SmallTypes.nextOf (.ref i1)) ?_
    refine D1.done _ _ _ (D1.frame _ _ _ h10 fun c hc o e => sk1.extBut _ _ (nm hc Z.z1) e) fun k2 e sk2 he => ?_
    obtain ⟨oe, hoe, hce⟩ := he
    have z2 : IsZipF k2 z TI TO .ellipsis f' := sk2 _ _ (Ne.symm i1z) zk1
    have ez : e ≠ z := fun x => by subst x; rw [z2] at hoe; cases hoe; simp at hce
    refine wpAny_setField_rec z2 (by simp) fun k3 _ sk3 => hE k3 e (fun c o c1 _ c3 _ x => sk3.extBut _ _ c1 (sk2 _ _ c3 (sk1.extBut _ _ c1 (sk0 _ _ c1 x)))) ⟨oe, sk3.extBut _ _ ez hoe, hce⟩
  | false =>
    simp only [Bool.false_eq_true, if_false]
    refine wpAny_bind ?_
    rw [<- Array.forIn_toList]
    simp only [List.forIn_cons, List.forIn_nil]
    refine wpAny_bind (wpAny_bind (wpAny_holding ?_)); refine wpAny_bind (m := Builtin.SmallTypes.nextOf (.ref i1)) ?_
    refine D1.done _ _ _ h10 fun k2 e sk2 he => hE k2 e (fun c o c1 _ c3 _ x => sk2 _ _ c3 (sk0 _ _ c1 x)) he
theorem nextZF_item {Q : Option Value -> Shared -> Prop} (D1 : Draws prog w A.in1 i1 f1 n1 P1 S1) (D2 : Draws prog w A.in1 i2 f2 n2 P2 S2) (Z : ZA z TI TO i1 i2 f1 f2)
    (hz : ZSt s.heap z TI TO) (hTI : IsPair s.heap TI (.ref i1) (.ref i2)) (hTO : IsPair s.heap TO a b) (h1 : S1 i s.heap) (h2 : S2 i s.heap) (l1 : i < n1) (l2 : i < n2)
    (hQ : ∀ x y h' tk, P1 i x -> P2 i y -> ZSt h' z TI TO -> (∃ a b, IsPair h' TO a b) -> S1 (i + 1) h' -> S2 (i + 1) h' -> IsPair h' s.heap.objs.size x y ->
      (∀ c o, c ≠ z -> c ≠ TO -> c ≠ i1 -> c ≠ i2 -> s.heap.get? c = some o -> h'.get? c = some o) -> Q (some (.ref s.heap.objs.size)) { s with heap := h', toks := tk }) :
    wpAny (model prog w) A (pyNext (.ref z)) Q E s := by
  have hT : s.TypeIs (.ref z) "zip" := by
    obtain ⟨f0, f, e, _⟩ := hz
    exact ⟨_, e, rfl⟩
  unfold pyNext
  exact wpAny_bind (wpAny_attempt (wpAny_callSpecial?_slot (name := Str.ofString "__next__") hT F.slot_zip_next (wpAny_call_entry F.slot_zip_next hT F.entry_zip_next
      (zipF_item D1 D2 Z hz hTI hTO h1 h2 l1 l2 fun x y h' tk p1 p2 a1 a2 a3 a4 a5 a6 => wpAny_pure (hQ x y h' tk p1 p2 a1 a2 a3 a4 a5 a6)) (F.args_zip_next_1 _))))
theorem nextZF_end {Q : Option Value -> Shared -> Prop} (D1 : Draws prog w A.in1 i1 f1 n1 P1 S1) (Z : ZA z TI TO i1 i2 f1 f2)
    (hz : ZSt s.heap z TI TO) (hTI : IsPair s.heap TI (.ref i1) (.ref i2)) (h1 : S1 n1 s.heap)
    (hQ : ∀ h', (∀ c o, c ≠ z -> c ≠ TO -> c ≠ i1 -> c ≠ i2 -> s.heap.get? c = some o -> h'.get? c = some o) -> Q none { s with heap := h' }) : wpAny (model prog w) A (pyNext (.ref z)) Q E s := by
  have hT : s.TypeIs (.ref z) "zip" := by
    obtain ⟨f0, f, e, _⟩ := hz
    exact ⟨_, e, rfl⟩
  unfold pyNext
  refine wpAny_bind (wpAny_attempt (wpAny_callSpecial?_slot (name := Str.ofString "__next__") hT F.slot_zip_next (wpAny_call_entry F.slot_zip_next hT F.entry_zip_next (zipF_end D1 Z hz hTI h1 fun h' e hk he => ?_) (F.args_zip_next_1 _))))
  obtain ⟨o, ho, hc⟩ := he
  refine wpAny_bind (wpAny_isInstance (T := "StopIteration") (b := true) ⟨o, ho, hc⟩ isSubtype_stop (wpAny_pure (hQ _ hk)))
end
theorem turn_zipN {P : Program} {w : World} {K : PySem.W.Frag} {nx : Str} {pos : Pos} {a1 a2 z TI TO i1 i2 : Addr} {Sq1 Sq2 : Hp -> List V -> Prop} {I1 I2 : Nat -> Heap -> Prop}
    (W1 : ZS P w K a1 i1 Sq1 I1) (W2 : ZS P w K a2 i2 Sq2 I2) (Z : ZA z TI TO i1 i2 [i1, a1] [i2, a2]) (n1 : a1 ≠ i1) (n2 : a2 ≠ i2) :
    Turn P w K (.Name nx pos) (ItZ Sq1 Sq2) [z, TI, TO, i1, i2] z (fun i h => ZSt h z TI TO /\ IsPair h TI (.ref i1) (.ref i2) /\ (∃ a b, IsPair h TO a b) /\ I1 i h /\ I2 i h) where
  mem := by simp
  obj := fun i h st b hb => by
    obtain ⟨⟨f0, f, q1, _⟩, q2, ⟨a, b', q3⟩, q4, q5⟩ := st
    simp only [List.mem_cons, List.not_mem_nil, or_false] at hb
    rcases hb with g | g | g | g | g <;> rw [g]
    · exact ⟨_, q1, fun v z => by cases z⟩
    · exact ⟨_, q2, fun v z => by cases z⟩
    · exact ⟨_, q3, fun v z => by cases z⟩
    · exact W1.obj i h q4
    · exact W2.obj i h q5
  keep := fun i h h' st kp => by
    obtain ⟨q1, q2, ⟨a, b', q3⟩, q4, q5⟩ := st
    exact ⟨q1.keep (kp z (by simp)), kp TI (by simp) _ q2, ⟨a, b', kp TO (by simp) _ q3⟩, W1.keep _ _ _ q4 fun o e => kp i1 (by simp) o e, W2.keep _ _ _ q5 fun o e => kp i2 (by simp) o e⟩
  item := by
    intro X hP hw hK hc i pins s σ H E I hf st hg
    obtain ⟨q1, q2, ⟨a, b', q3⟩, q4, q5⟩ := st
    obtain ⟨xs, ys, x, y, hx, hy, gx, gy⟩ := hg
    obtain ⟨xi, SX, rx, DX, ux, vx⟩ := W1.draws X hP hw hK hc pins s σ H I xs hx n1
    obtain ⟨yi, SY, ry, DY, uy, vy⟩ := W2.draws X hP hw hK hc pins s σ H I ys hy n2
    obtain ⟨u0, hu, ru⟩ := rx.get gx
    obtain ⟨w0, hw0, rw0⟩ := ry.get gy
    have ij1 := W1.inj X hK pins s σ H I
    have ij2 := W2.inj X hK pins s σ H I
    subst hP hw hK
    refine nextZF_item DX DY Z q1 q2 q3 (ux i q4) (uy i q5) (List.getElem?_eq_some_iff.mp hu).1 (List.getElem?_eq_some_iff.mp hw0).1 fun x2 y2 h' tk p1 p2 e1 e2 e3 e4 e5 e7 => ⟨_, rfl, ?_⟩
    have ex : x2 = u0 := Option.some.inj (p1.symm.trans hu)
    have ey : y2 = w0 := Option.some.inj (p2.symm.trans hw0)
    subst ex
    subst ey
    have lt : ∀ {c o}, s.heap.get? c = some o -> s.heap.objs.size ≠ c := fun e => Nat.ne_of_gt (Heap.lt_size e)
    obtain ⟨o1, g1⟩ := DX.live _ _ (ux i q4)
    obtain ⟨o2, g2⟩ := DY.live _ _ (uy i q5)
    have hTw : s.heap.objs.size ∉ [z, TI, TO, i1, i2] := by
      obtain ⟨f0, f, qz, _⟩ := q1
      simp only [List.mem_cons, List.not_mem_nil, or_false, not_or]
      exact ⟨lt qz, lt q2, lt q3, lt g1, lt g2⟩
    have kk : ∀ b o, b ∉ [z, TI, TO, i1, i2] -> s.heap.get? b = some o -> h'.get? b = some o := fun b o hb e => by
      simp only [List.mem_cons, List.not_mem_nil, or_false, not_or] at hb
      exact e7 b o hb.1 hb.2.2.1 hb.2.2.2.1 hb.2.2.2.2 e
    have hTup2 : h'.IsTuple s.heap.objs.size #[x2, y2] := ⟨_, e5, rfl, _, rfl⟩
    refine wpAny_pure ⟨.ref s.heap.objs.size, upd H s.heap.objs.size (.tup [x, y]), ?_, rfl, ⟨s.heap.objs.size, x, y, fun zs hzs => by rw [ij1 zs xs hzs hx]; exact gx, fun zs hzs => by rw [ij2 zs ys hzs hy]; exact gy, rfl, I.hok.fresh (Nat.le_refl _), rfl⟩,
      ⟨e1, e7 _ _ Z.tz Z.tt Z.t1 Z.t2 q2, e2, vx _ _ e3, vy _ _ e4⟩, fun b hb => ?_⟩
    · refine I.turnLaid (t' := tk) (h' := h') kk hf (Nat.le_refl _) ?_
      exact ⟨by show 2 <= sizeLine; decide, [x2, y2], .cons ru (.cons rw0 .nil), hTup2⟩
    · rw [upd_ne (fun q : b = s.heap.objs.size => hTw (q ▸ hb))]; exact (hf b hb).1
  done := by
    intro X hP hw hK hc i pins s σ H E I hf st hg
    obtain ⟨q1, q2, ⟨a, b', q3⟩, q4, q5⟩ := st
    obtain ⟨xs, hx, ⟨ys, hy⟩, el⟩ := hg
    obtain ⟨xi, SX, rx, DX, ux, vx⟩ := W1.draws X hP hw hK hc pins s σ H I xs hx n1
    have hl := rx.length
    subst hP hw hK
    have e0 : i = xi.length := by omega
    subst e0
    refine nextZF_end DX Z q1 q2 (ux _ q4) fun h' hk => ⟨rfl, I.turnedL (t' := s.toks) (ch := [z, TI, TO, i1, i2]) (fun b o hb e => ?_) hf⟩
    simp only [List.mem_cons, List.not_mem_nil, or_false, not_or] at hb
    exact hk b o hb.1 hb.2.2.1 hb.2.2.2.1 hb.2.2.2.2 e
  self := fun _ _ s _ _ st h => by
    obtain ⟨⟨f0, f, q1, _⟩, _⟩ := st
    have hT : s.TypeIs (.ref z) "zip" := ⟨_, q1, rfl⟩
    refine wpAny_pyIter_slot hT F.slot_zip_iter (wpAny_call_entry F.slot_zip_iter hT F.entry_zip_iter ?_ (F.args_zip_iter_1 _))
    show wpAny _ _ (ret (.ref z)) _ _ s
    exact wpAny_pure ⟨_, rfl, "zip", _, hT, F.slot_zip_next.lookup, h⟩
section
variable {X : Cx} {nx : Str} {pos' : Pos} {a b : Expr} {ta : TA} {p pos : Pos}
theorem pi_zipGN {Sq1 Sq2 : Addr -> Hp -> List V -> Prop} (hg : Gl X "zip") (hm : X.mg "zip" = none) (ha : PA X [a, b] ta) (hs : starEach [a, b] X.env = [(false, eval a X.env), (false, eval b X.env)]) (hs2 : starEach [b] X.env = [(false, eval b X.env)])
    (hk : ∀ (pins : List (Addr × Obj)) (s : Shared) (σ : St) (H : Hp), Inv X pins σ H s -> ∀ u v xs ys, Sq1 u H xs -> Sq2 v H ys -> u < s.heap.objs.size /\ v < s.heap.objs.size /\ ∃ (c d : String) (P1 P2 : Heap -> Prop) (I1 I2 : Nat -> Heap -> Prop), ZMk c d P1 P2 u v /\ P1 s.heap /\ P2 s.heap /\
      ZS X.prog X.w X.K u s.heap.objs.size (Sq1 u) I1 /\ ZS X.prog X.w X.K v (s.heap.objs.size + 1) (Sq2 v) I2 /\ (∀ h' : Heap, h'.get? s.heap.objs.size = some { cls := .type c, data := .fields #[.ref u, .int 0 0] } -> I1 0 h') /\ ∀ h' : Heap, h'.get? (s.heap.objs.size + 1) = some { cls := .type d, data := .fields #[.ref v, .int 0 0] } -> I2 0 h') :
    PI X (.Name nx pos') (.Call (.Name "zip" p) [a, b] [] pos) (iZip Sq1 Sq2 ta) := by
  intro pins s σ H R I h
  refine Call_ (ld_blt I hg hm boot_zip (PyProof.Rows.callWith_type1 (thn (ha pos pins s σ H _ I h) fun us s1 ⟨vs, H1, I1, r1, q1⟩ => ?_) (by rw [hs, hs2]) (by rw [hs2]; rfl)))
  obtain ⟨u, v, rfl, ⟨xs, hx⟩, ⟨ys, hy⟩, q⟩ := q1
  obtain ⟨u', v', rfl, ru, rv⟩ := vals2 r1
  cases ru
  cases rv
  obtain ⟨lu, lv, c, d, P1, P2, J1, J2, M, p1, p2, W1, W2, j1, j2⟩ := hk pins s1 σ H1 I1 u v xs ys hx hy
  refine M X.prog X.w X.A X.xe s1 _ p1 p2 fun h' z1 z2 z3 z4 z5 kk => wpAny_pyIter_zip z1 ?_
  refine ⟨s1.heap.objs.size + 4, [s1.heap.objs.size + 4, s1.heap.objs.size + 2, s1.heap.objs.size + 3, s1.heap.objs.size, s1.heap.objs.size + 1], _, _, H1, rfl, I1.kept (t' := s1.toks) kk, turn_zipN W1 W2 (za_new lu lv) (Nat.ne_of_lt lu) (Nat.ne_of_lt (Nat.lt_succ_of_lt lv)), ⟨⟨_, _, z1, .inl rfl⟩, z2, ⟨_, _, z3⟩, j1 h' z4, j2 h' z5⟩, fun e he => ?_, q⟩
  have he2 : s1.heap.objs.size <= e := by
    simp only [List.mem_cons, List.not_mem_nil, or_false] at he
    rcases he with g | g | g | g | g <;> rw [g] <;> omega
  exact I1.fpOk he2 (I1.hok.fresh he2)
theorem pi_zipNTT (K : PySem.W.Frag) (hK : X.K = K) (hg : Gl X "zip") (hm : X.mg "zip" = none) (ha : PA X [a, b] ta) (hs : starEach [a, b] X.env = [(false, eval a X.env), (false, eval b X.env)] := by rfl) (hs2 : starEach [b] X.env = [(false, eval b X.env)] := by rfl) : PI X (.Name nx pos') (.Call (.Name "zip" p) [a, b] [] pos) (iZip (SqTa K) (SqTa K) ta) := by
  subst hK
  refine pi_zipGN hg hm ha hs hs2 fun pins s σ H I u v xs ys hx hy => ?_
  obtain ⟨xi, _, px, _⟩ := I.tuple hx
  obtain ⟨yi, _, py, _⟩ := I.tuple hy
  obtain ⟨ox, ex, _⟩ := id px
  obtain ⟨oy, ey, _⟩ := id py
  exact ⟨Heap.lt_size ex, Heap.lt_size ey, _, _, (fun h => h.IsTuple u xi.toArray), (fun h => h.IsTuple v yi.toArray), _, _, zmk_of (meets_zipTT u v xi.toArray yi.toArray), px, py, zs_tup u _, zs_tup v _, fun h' e => ⟨_, e, rfl, rfl⟩, fun h' e => ⟨_, e, rfl, rfl⟩⟩
end
end L2
namespace L2
open PySem PySem.Spec PyProof.Rows HT
section
variable {prog : Program} {w : World} {A : Around} {E : Value -> Shared -> Prop} {s : Shared}
theorem cat_tup0 {t b : Addr} {ws : List Value} {Q : Value -> Shared -> Prop} (ht : IsTup s.heap t #[]) (hb : IsTup s.heap b ws.toArray) (h : Q (.ref b) s) : wpAny (model prog w) A (binaryOp .Add (.ref t) (.ref b)) Q E s := by
  obtain ⟨⟨cls, dd, data, sl⟩, ho, hc, n, hd⟩ := id ht
  obtain ⟨⟨cls2, dd2, data2, sl2⟩, ho2, hc2, n2, hd2⟩ := id hb
  simp only at hc hd hc2 hd2
  subst hc hd hc2 hd2
  exact concat_meets ⟨_, ho, rfl⟩ ⟨_, ho2, rfl⟩ noFill_tuple_add seq_tuple_add PySem.F.slot_tuple_add PySem.F.entry_tuple_add (PySem.F.args_tuple_add_2 _ _)
    (tuple_addW0 t b #[] ws.toArray n n2 dd dd2 sl sl2 (by simp)) ⟨ho, ho2, h⟩
theorem getItem_tuple_all {t sl : Addr} {items : Array Value} {vl vu : Value} {lo hi : Option Int} {Q : Value -> Shared -> Prop} (ht : IsTup s.heap t items) (hs : s.heap.IsSliceOf sl vl vu .none) (pl : IsPart vl lo) (pu : IsPart vu hi)
    (hw : sIx items.size 0 lo = 0 /\ sIx items.size items.size hi = items.size) (h : Q (.ref t) s) : wpAny (model prog w) A (getItem (.ref t) (.ref sl)) Q E s := by
  obtain ⟨os, hos, hcs, hds⟩ := id hs
  have hTs : s.TypeIs (.ref sl) "slice" := ⟨os, hos, hcs⟩
  unfold getItem
  try with_reducible refine wpAny_holding ?_
  first | refine wpAny_bind (wpAny_pure ?_) | skip
  refine wpAny_bind (wpAny_sequenceKey ht.typeIs (by decide) ?_)
  refine wpAny_bind (wpAny_callSpecial?_slot (name := Str.ofString "__getitem__") ht.typeIs PyProof.Rows.slot_tuple_getitem
    (wpAny_call_entry PyProof.Rows.slot_tuple_getitem ht.typeIs entry_tuple_getitem ?_ (args_tuple_getitem _ _)))
  show wpAny _ _ (Builtin.Tuple.tupleItemsOf (.ref t) >>= _) _ _ s
  refine wpAny_bind (tupleItemsOf_ ht ?_)
  refine wpAny_bind (wpAny_typeOf hTs ?_)
  rw [if_pos (by decide)]
  refine wpAny_bind (sliceApplied_gen hs pl pu ?_)
  show wpAny _ _ (if (((sIx items.size 0 lo : Nat) : Int) == 0 && (1 : Int) == 1 && (sIx items.size items.size hi - sIx items.size 0 lo) == items.size) = true then _ else _) _ _ s
  rw [if_pos (by rw [hw.1, hw.2]; simp)]
  show wpAny _ _ (Builtin.Tuple.tupleIsExact (.ref t) >>= _) _ _ s
  refine wpAny_bind (m := Builtin.Tuple.tupleIsExact (.ref t)) (wpAny_bind (wpAny_typeOf ht.typeIs (wpAny_pure ?_)))
  show wpAny _ _ (if true = true then _ else _) _ _ s
  rw [if_pos rfl]
  exact wpAny_bind (wpAny_rule (wpAny_pure ⟨_, rfl, wpAny_pure h⟩))
end
section
variable {X : Cx}
noncomputable def rCatA : R2 := fun x y H Q => ∃ a b xs ys, x = .ref a /\ y = .ref b /\ H a = some (.tup xs) /\ H b = some (.tup ys) /\ xs.length + ys.length <= sizeLine /\
  ∀ p H', (∀ c o, H c = some o -> H' c = some o) -> H' p = some (.tup (xs ++ ys)) -> Q (.ref p) H'
theorem op_catA : OpR X (binaryOp .Add) rCatA := by
  intro pins s σ H x y v u Q I rx ry h
  obtain ⟨a, b, xs, ys, rfl, rfl, ha, hb, hz, q⟩ := h
  cases rx
  cases ry
  obtain ⟨its, r1, p1, _⟩ := I.tuple (SqT.of ha)
  obtain ⟨its2, r2, p2, _⟩ := I.tuple (SqT.of hb)
  by_cases hx : xs = []
  · subst hx
    cases r1
    exact cat_tup0 p1 p2 ⟨.ref b, H, I, rfl, q b H (fun _ _ e => e) hb⟩
  refine HT.cat_tup p1 p2 (fun z => hx (r1.nil_iff.mp z)) (fun z => ⟨.ref a, H, I, rfl, ?_⟩) (fun z => ?_) (by rw [<- r1.length, <- r2.length]; exact hz)
  · have e := r2.nil_iff.mp z
    exact q a H (fun _ _ e => e) (by rw [e, List.append_nil]; exact ha)
  · have n := I.hok.fresh (Nat.le_refl s.heap.objs.size)
    refine ⟨.ref s.heap.objs.size, _, I.laid (t' := s.toks) (o := .tup (xs ++ ys)) (fun b ob q => Heap.get?_push_of_some _ q) (Nat.le_refl _) ?_, rfl, q _ _ (fun c o e => ?_) upd_same⟩
    · exact ⟨by rw [List.length_append]; exact hz, _, r1.append r2, IsTup.new _ _⟩
    · rw [upd_ne (fun z => by rw [z, n] at e; cases e)]; exact e
noncomputable def rSlA : V -> Option Int -> Option Int -> Hp -> VK -> Prop := fun x lo hi H Q => ∃ a xs, x = .ref a /\ H a = some (.tup xs) /\
  ∀ p H', (∀ c o, H c = some o -> H' c = some o) -> H' p = some (.tup (cutV xs lo hi)) -> Q (.ref p) H'
theorem sl_tupA : SlR X rSlA := by
  intro pins s σ H x v vl vu lo hi sl Q I rx hs pl pu h
  obtain ⟨a, xs, rfl, hx, q⟩ := h
  cases rx
  obtain ⟨its, r, ht, hz⟩ := I.tuple (SqT.of hx)
  have hlen : its.toArray.size = xs.length := by rw [List.size_toArray]; exact r.length.symm
  refine ⟨"tuple", _, PyProof.Rows.slot_tuple_getitem.lookup, ht.typeIs, ?_⟩
  by_cases hw : HT.sIx xs.length 0 lo = 0 /\ HT.sIx xs.length xs.length hi = xs.length
  · refine getItem_tuple_all ht hs pl pu (by rw [hlen]; exact hw) ⟨.ref a, H, I, rfl, q a H (fun _ _ e => e) ?_⟩
    unfold cutV
    rw [hw.1, hw.2, List.drop_zero, Nat.sub_zero, List.take_length]
    exact hx
  refine HT.getItem_tuple_cut ht hs pl pu (by rw [hlen]; exact hw) ?_ (by rw [hlen]; exact hz)
  rw [hlen]
  have n := I.hok.fresh (Nat.le_refl s.heap.objs.size)
  refine ⟨.ref s.heap.objs.size, _, I.laid (t' := s.toks) (o := .tup (cutV xs lo hi)) (fun b ob q => Heap.get?_push_of_some _ q) (Nat.le_refl _) ?_, rfl, q _ _ (fun c o e => ?_) upd_same⟩
  · exact ⟨Nat.le_trans (cutV_length xs lo hi) hz, _, (r.drop (HT.sIx xs.length 0 lo)).take (HT.sIx xs.length xs.length hi - HT.sIx xs.length 0 lo), IsTup.new _ _⟩
  · rw [upd_ne (fun z => by rw [z, n] at e; cases e)]; exact e
end
end L2
set_option maxHeartbeats 4000000
namespace My
open PySem PySem.Spec PyProof.Rows L2
noncomputable def smalls : List Nat := [97, 98, 99, 100, 101, 102, 103, 104, 105, 106, 107, 108, 109, 110, 111, 112, 113, 114, 115, 116, 117, 118, 119, 120, 121, 122]
noncomputable def caps : List Nat := [65, 66, 67, 68, 69, 70, 71, 72, 73, 74, 75, 76, 77, 78, 79, 80, 81, 82, 83, 84, 85, 86, 87, 88, 89, 90]
noncomputable def Lt (c : Nat) : Prop := c ∈ smalls \/ c ∈ caps
noncomputable instance (c : Nat) : Decidable (Lt c) := by unfold Lt; infer_instance
noncomputable def ctr (c : Nat) : Nat := if isLow c = true then PyProof.Rows.up1 c else PyProof.Rows.lo1 c
theorem lt_all : ∀ c ∈ smalls ++ caps, c < 128 /\ ctr c ∈ smalls ++ caps /\ ctr (ctr c) = c /\ ctr c ≠ c := by decide +kernel
theorem Lt.mem {c : Nat} (h : Lt c) : c ∈ smalls ++ caps := List.mem_append.mpr h
theorem Lt.lt {c : Nat} (h : Lt c) : c < 128 := (lt_all c h.mem).1
theorem Lt.ctr {c : Nat} (h : Lt c) : Lt (ctr c) := List.mem_append.mp (lt_all c h.mem).2.1
theorem ctr_ctr {c : Nat} (h : Lt c) : ctr (ctr c) = c := (lt_all c h.mem).2.2.1
theorem ctr_ne {c : Nat} (h : Lt c) : ctr c ≠ c := (lt_all c h.mem).2.2.2
theorem ctr_inj {a b : Nat} (ha : Lt a) (hb : Lt b) (e : My.ctr a = My.ctr b) : a = b := by rw [<- ctr_ctr ha, e, ctr_ctr hb]
theorem other_small : ∀ c ∈ smalls, atI caps ((smalls.idxOf c : Nat) : Int) = some (ctr c) := by decide +kernel
theorem other_cap : ∀ c ∈ caps, atI smalls ((caps.idxOf c : Nat) : Int) = some (ctr c) := by decide +kernel
noncomputable def tnd (l : List Nat) : List Nat := (l.map ctr).reverse
noncomputable def SameB (b : Addr) (H H' : Hp) : Prop := ∀ c o, H c = some o -> c ≠ b -> H' c = some o
theorem SameB.refl (b : Addr) (H : Hp) : SameB b H H := fun _ _ h _ => h
theorem SameB.trans {b : Addr} {H H1 H2 : Hp} (x : SameB b H H1) (y : SameB b H1 H2) : SameB b H H2 := fun c o h n => y c o (x c o h n) n
theorem SameB.of {b : Addr} {H H' : Hp} (x : Same H H') : SameB b H H' := fun c o h _ => x c o h
theorem SameB.upd (b : Addr) (H : Hp) (o : HO) : SameB b H (upd H b o) := fun c o h n => by rw [upd_ne n]; exact h
theorem Same.upd {H : Hp} {p : Addr} {o : HO} (h : H p = none) : Same H (L2.upd H p o) := fun c u e => by rw [upd_ne (ne_of_none e h)]; exact e
noncomputable def BoxAt (H : Hp) (b : Addr) : Prop := ∃ x y : Int, H b = some (.lst [.int x, .int y])
theorem BoxAt.same {H H' : Hp} {b : Addr} (h : BoxAt H b) (s : Same H H') : BoxAt H' b := let ⟨x, y, e⟩ := h; ⟨x, y, s _ _ e⟩
structure Yd (y : List Nat) : Prop where
  nd : y.Nodup
  lt : ∀ c ∈ y, Lt c
  cl : ∀ c ∈ y, ctr c ∈ y
noncomputable def sp_contrary (_ : PySem.W.Frag) : Sp := fun vs H Q _ => ∃ c, vs = [.str (S [c])] /\ c < 128 /\ Q (.str (S [ctr c])) H
theorem len_contrary {K : PySem.W.Frag} {vs : List V} {H : Hp} {Q : VK} {E : XK} (h : sp_contrary K vs H Q E) : vs.length = 1 := by obtain ⟨c, rfl, _⟩ := h; rfl
noncomputable def sp_Lother (_ : PySem.W.Frag) : Sp := fun vs H Q _ => ∃ c, vs = [.str (S [c])] /\ Lt c /\ Q (.str (S [ctr c])) H
theorem len_Lother {K : PySem.W.Frag} {vs : List V} {H : Hp} {Q : VK} {E : XK} (h : sp_Lother K vs H Q E) : vs.length = 1 := by obtain ⟨c, rfl, _⟩ := h; rfl
noncomputable def sp_Lbox (K : PySem.W.Frag) : Sp := fun vs H Q _ => ∃ (a : Addr) (ns : List Int) (k : Nat), vs = [.ref a, .int k] /\ SqL K H a (ns.map V.int) /\ k <= 1000 /\ ∀ b H', H b = none -> BoxAt H' b -> Same H H' -> Q (.ref b) H'
theorem len_Lbox {K : PySem.W.Frag} {vs : List V} {H : Hp} {Q : VK} {E : XK} (h : sp_Lbox K vs H Q E) : vs.length = 2 := by obtain ⟨a, ns, k, rfl, _⟩ := h; rfl
noncomputable def sp_Ltake (_ : PySem.W.Frag) : Sp := fun vs H Q _ => ∃ (b : Addr) (m : Int), vs = [.ref b, .int m] /\ BoxAt H b /\ 1 <= m /\ m < 1000000 /\ ∀ (r : Nat) H', (r : Int) < m -> BoxAt H' b -> SameB b H H' -> Q (.int r) H'
theorem len_Ltake {K : PySem.W.Frag} {vs : List V} {H : Hp} {Q : VK} {E : XK} (h : sp_Ltake K vs H Q E) : vs.length = 2 := by obtain ⟨b, m, rfl, _⟩ := h; rfl
noncomputable def sp_Lyard (_ : PySem.W.Frag) : Sp := fun vs H Q _ => ∃ (b : Addr) (few top : Nat), vs = [.ref b, .int few, .int top] /\ BoxAt H b /\ 1 <= few /\ few <= top /\ top <= 8 /\ ∀ (y : List Nat) H', Yd y -> 2 * few <= y.length -> y.length <= 2 * top -> BoxAt H' b -> SameB b H H' -> Q (.str (S y)) H'
theorem len_Lyard {K : PySem.W.Frag} {vs : List V} {H : Hp} {Q : VK} {E : XK} (h : sp_Lyard K vs H Q E) : vs.length = 3 := by obtain ⟨b, m, t, rfl, _⟩ := h; rfl
noncomputable def sp_Lword (_ : PySem.W.Frag) : Sp := fun vs H Q _ => ∃ (b : Addr) (y : List Nat) (top : Nat), vs = [.ref b, .str (S y), .int top] /\ BoxAt H b /\ y ≠ [] /\ y.length <= 1000 /\ top <= 1000 /\ ∀ (l : List Nat) H', (∀ c ∈ l, c ∈ y) -> l.length <= top -> BoxAt H' b -> SameB b H H' -> Q (.str (S l)) H'
theorem len_Lword {K : PySem.W.Frag} {vs : List V} {H : Hp} {Q : VK} {E : XK} (h : sp_Lword K vs H Q E) : vs.length = 3 := by obtain ⟨b, m, t, rfl, _⟩ := h; rfl
noncomputable def sp_law (K : PySem.W.Frag) : Sp := fun vs H Q _ => ∃ (a : Addr) (ns : List Int), vs = [.ref a] /\ SqL K H a (ns.map V.int) /\ ns.length <= 63 /\ ∀ H', Q (.bl true) H'
theorem len_law {K : PySem.W.Frag} {vs : List V} {H : Hp} {Q : VK} {E : XK} (h : sp_law K vs H Q E) : vs.length = 1 := by obtain ⟨b, m, rfl, _⟩ := h; rfl
theorem flat1 : ∀ l : List Nat, (l.map fun c => [c]).flatten = l
  | [] => rfl
  | c :: l => by rw [List.map_cons, List.flatten_cons, flat1 l]; rfl
theorem sum1 : ∀ l : List Nat, ((l.map fun c => [c]).map List.length).sum = l.length
  | [] => rfl
  | c :: l => by
    rw [List.map_cons, List.map_cons, List.sum_cons, sum1 l]
    show 1 + l.length = l.length + 1
    omega
theorem sgs_lists (l : List Nat) : sgs l = (l.map fun c => [c]).map fun l => V.str (S l) := by unfold sgs; rw [List.map_map]; rfl
theorem sgs_rev (l : List Nat) : (sgs l).reverse = sgs l.reverse := by unfold sgs; rw [List.map_reverse]
theorem sgs_snoc (l : List Nat) (c : Nat) : sgs l ++ [V.str (S [c])] = sgs (l ++ [c]) := by unfold sgs; rw [List.map_append]; rfl
theorem take_snoc {α : Type} {l : List α} {i : Nat} {x : α} (h : l[i]? = some x) : l.take i ++ [x] = l.take (i + 1) := by rw [List.take_add_one, h]; rfl
theorem ints_at {ns : List Int} {i : Nat} (h : i < ns.length) : ∃ z, (ns.map V.int)[i]? = some (V.int z) := ⟨ns[i], by rw [List.getElem?_map, List.getElem?_eq_getElem h]; rfl⟩
theorem yes_ite {σ : L2.St} {H : Hp} {A B : Hp -> Prop} (h : A H) : tYes σ H fun b H3 => if b = true then A H3 else B H3 := by
  show (if true = true then A H else B H)
  rw [if_pos rfl]
  exact h
theorem box_at (b : Bool) (z : Int) : ∃ y, atI [V.int 0, V.int z] (if b = true then 1 else 0) = some (V.int y) := by
  cases b
  · exact ⟨0, rfl⟩
  · exact ⟨z, rfl⟩
theorem erase_perm {α : Type} : ∀ {l : List α} {i : Nat} {x : α}, l[i]? = some x -> (x :: l.eraseIdx i).Perm l
  | [], i, x, h => by simp at h
  | a :: l, 0, x, h => by
    have : a = x := by simpa using h
    subst this
    exact List.Perm.refl _
  | a :: l, i + 1, x, h => by
    have ih := erase_perm (l := l) (i := i) (x := x) (by simpa using h)
    rw [List.eraseIdx_cons_succ]
    exact (List.Perm.swap a x _).trans (List.Perm.cons a ih)
theorem sgs_erase (l : List Nat) (i : Nat) : (sgs l).eraseIdx i = sgs (l.eraseIdx i) := by
  unfold sgs
  induction l generalizing i with
  | nil => rfl
  | cons a l ih =>
    cases i with
    | zero => rfl
    | succ i => rw [List.map_cons, List.eraseIdx_cons_succ, ih, List.eraseIdx_cons_succ, List.map_cons]
theorem sgs_at {l : List Nat} {i : Nat} (h : i < l.length) : (sgs l)[i]? = some (V.str (S [l[i]])) := by unfold sgs; rw [List.getElem?_map, List.getElem?_eq_getElem h]; rfl
theorem sgs_app (a b : List Nat) : sgs a ++ sgs b = sgs (a ++ b) := by unfold sgs; rw [List.map_append]
theorem small_ctr : ∀ c ∈ smalls, ctr c ∉ smalls := by decide +kernel
theorem smalls_nd : smalls.Nodup := by decide +kernel
theorem Yd.perm {a b : List Nat} (h : Yd a) (p : a.Perm b) : Yd b :=
  ⟨p.nodup_iff.mp h.nd, fun c hc => h.lt c (p.mem_iff.mpr hc), fun c hc => p.mem_iff.mp (h.cl c (p.mem_iff.mpr hc))⟩
structure YdW (i : Nat) (L E : List Nat) : Prop where
  yd : Yd E
  nd : L.Nodup
  sm : ∀ c ∈ L, c ∈ smalls
  ap : ∀ c ∈ L, c ∉ E
  ll : L.length = 26 - i
  el : E.length = 2 * i
theorem YdW.start : YdW 0 smalls [] := ⟨⟨List.nodup_nil, fun _ h => absurd h List.not_mem_nil, fun _ h => absurd h List.not_mem_nil⟩, smalls_nd, fun _ h => h, fun _ _ h => absurd h List.not_mem_nil, rfl, rfl⟩
theorem YdW.turn {i r : Nat} {L E : List Nat} (w : YdW i L E) (hi : i < 26) (hr : r < L.length) : YdW (i + 1) (L.eraseIdx r) (E ++ [L[r], ctr L[r]]) := by
  have hp := erase_perm (l := L) (List.getElem?_eq_getElem hr)
  have hm : L[r] ∈ L := List.getElem_mem hr
  have hs := w.sm _ hm
  have hl : Lt L[r] := .inl hs
  have nd2 := hp.nodup_iff.mpr w.nd
  have sub : ∀ c ∈ L.eraseIdx r, c ∈ L := fun c hc => hp.mem_iff.mp (List.mem_cons_of_mem _ hc)
  have ap1 := w.ap _ hm
  have ap2 : ctr L[r] ∉ E := fun z => ap1 (by have := w.yd.cl _ z; rwa [ctr_ctr hl] at this)
  refine ⟨⟨?_, fun c hc => ?_, fun c hc => ?_⟩, (List.nodup_cons.mp nd2).2, fun c hc => w.sm c (sub c hc), fun c hc hE => ?_, ?_, ?_⟩
  · rw [List.nodup_append]
    refine ⟨w.yd.nd, ?_, fun a ha b hb z => ?_⟩
    · rw [List.nodup_cons]
      refine ⟨fun z => (ctr_ne hl) (List.mem_singleton.mp z).symm, List.nodup_cons.mpr ⟨List.not_mem_nil, List.nodup_nil⟩⟩
    · subst z
      rcases List.mem_cons.mp hb with z | z
      · exact ap1 (z ▸ ha)
      · exact ap2 (List.mem_singleton.mp z ▸ ha)
  · rcases List.mem_append.mp hc with z | z
    · exact w.yd.lt c z
    · rcases List.mem_cons.mp z with z | z
      · rw [z]; exact hl
      · rw [List.mem_singleton.mp z]; exact hl.ctr
  · rcases List.mem_append.mp hc with z | z
    · exact List.mem_append_left _ (w.yd.cl c z)
    · refine List.mem_append_right _ ?_
      rcases List.mem_cons.mp z with z | z
      · rw [z]; exact List.mem_cons_of_mem _ (List.mem_singleton.mpr rfl)
      · rw [List.mem_singleton.mp z, ctr_ctr hl]; exact List.mem_cons_self
  · rcases List.mem_append.mp hE with z | z
    · exact w.ap c (sub c hc) z
    · rcases List.mem_cons.mp z with z | z
      · exact (List.nodup_cons.mp nd2).1 (z ▸ hc)
      · have e : c = ctr L[r] := List.mem_singleton.mp z
        exact small_ctr _ hs (e ▸ w.sm c (sub c hc))
  · have := hp.length_eq
    rw [List.length_cons, w.ll] at this
    omega
  · rw [List.length_append, w.el]
    show 2 * i + 2 = _
    omega
theorem SameB.updN {b p : Addr} {H H' : Hp} {o : HO} (h : SameB b H H') (n : H p = none) : SameB b H (L2.upd H' p o) := fun c u e z => by rw [upd_ne (ne_of_none e n)]; exact h c u e z
theorem BoxAt.updN {b p : Addr} {H : Hp} {o : HO} (h : BoxAt H b) (n : p ≠ b) : BoxAt (L2.upd H p o) b := let ⟨x, y, e⟩ := h; ⟨x, y, by rw [upd_ne (Ne.symm n)]; exact e⟩
theorem SameB.none {b p : Addr} {H H' : Hp} (h : SameB b H H') (n : H' p = none) (z : p ≠ b) : H p = none := by
  cases q : H p with
  | none => rfl
  | some o => rw [h p o q z] at n; cases n
theorem BoxAt.ne {b p : Addr} {H : Hp} (h : BoxAt H b) (n : H p = none) : p ≠ b := fun z => by obtain ⟨x, y, e⟩ := h; rw [<- z, n] at e; cases e
theorem iteN {c : Bool} {A B : Prop} (h : c = false) (hB : B) : if c = true then A else B := by rw [h]; exact iteF hB
theorem iteY {c : Bool} {A B : Prop} (h : c = true) (hA : A) : if c = true then A else B := by rw [h]; exact iteT hA
theorem sgs_take (a : List Nat) : a.take (sgs a).length = a := by rw [sgs_len]; exact List.take_of_length_le (Nat.le_refl _)
theorem cut_mem {α : Type} {l : List α} {lo hi : Option Int} {c : α} (h : c ∈ cut l lo hi) : c ∈ l := List.mem_of_mem_drop (List.mem_of_mem_take h)
theorem SameB.same {b : Addr} {H H2 H3 : Hp} (n : H b = Option.none) (s : Same H H2) (t : SameB b H2 H3) : Same H H3 := fun c o e => t c o (s c o e) (ne_of_none e n)
theorem SameB.after {p : Addr} {H H1 H2 : Hp} (s : SameB p H H1) (t : Same H1 H2) : SameB p H H2 := fun c o e z => t c o (s c o e z)
noncomputable def txs (ws : List (List Nat)) : List V := ws.map fun l => V.str (S l)
theorem txs_len (ws : List (List Nat)) : (txs ws).length = ws.length := by unfold txs; rw [List.length_map]
theorem txs_snoc (ws : List (List Nat)) (l : List Nat) : txs ws ++ [V.str (S l)] = txs (ws ++ [l]) := by unfold txs; rw [List.map_append]; rfl
theorem txs_at {ws : List (List Nat)} {i : Nat} (h : i < ws.length) : (txs ws)[i]? = some (V.str (S ws[i])) := by unfold txs; rw [List.getElem?_map, List.getElem?_eq_getElem h]; rfl
noncomputable def rstep (st : List Nat) (c : Nat) : List Nat := if st.getLast? = some (ctr c) then st.dropLast else st ++ [c]
noncomputable def red (l : List Nat) : List Nat := l.foldl rstep []
noncomputable def Rdd : List Nat -> Prop
  | [] => True
  | [_] => True
  | a :: b :: r => a ≠ ctr b /\ Rdd (b :: r)
theorem Rdd.snoc : ∀ {l : List Nat} {c : Nat}, Rdd l -> l.getLast? ≠ some (ctr c) -> Rdd (l ++ [c])
  | [], _, _, _ => trivial
  | [a], c, _, h => ⟨fun z => h (by rw [z]; rfl), trivial⟩
  | a :: b :: r, c, h, k => ⟨h.1, Rdd.snoc (l := b :: r) h.2 (by simpa using k)⟩
theorem Rdd.init : ∀ {l : List Nat} {c : Nat}, Rdd (l ++ [c]) -> Rdd l /\ l.getLast? ≠ some (ctr c)
  | [], _, _ => ⟨trivial, by simp⟩
  | [a], c, h => ⟨trivial, fun z => h.1 (by simpa using z)⟩
  | a :: b :: r, c, h => by
    have ih := Rdd.init (l := b :: r) (c := c) h.2
    exact ⟨⟨h.1, ih.1⟩, by simpa using ih.2⟩
theorem snoc_cases (l : List Nat) : l = [] \/ ∃ m a, l = m ++ [a] := by
  by_cases h : l = []
  · exact .inl h
  · exact .inr ⟨l.dropLast, l.getLast h, (List.dropLast_concat_getLast h).symm⟩
theorem Rdd.left : ∀ {m l : List Nat}, Rdd (m ++ l) -> Rdd m
  | [], _, _ => trivial
  | [_], _, _ => trivial
  | a :: b :: r, l, h => ⟨h.1, Rdd.left (m := b :: r) (l := l) h.2⟩
theorem last_snoc {l : List Nat} {c : Nat} (h : l.getLast? = some c) : ∃ m, l = m ++ [c] := by
  rcases snoc_cases l with rfl | ⟨m, a, rfl⟩
  · simp at h
  · refine ⟨m, ?_⟩
    have : a = c := by simpa using h
    rw [this]
theorem rstep_rdd {st : List Nat} {c : Nat} (h : Rdd st) : Rdd (rstep st c) := by
  unfold rstep
  by_cases e : st.getLast? = some (ctr c)
  · rw [if_pos e]
    obtain ⟨m, rfl⟩ := last_snoc e
    rw [List.dropLast_concat]
    exact h.init.1
  · rw [if_neg e]
    exact h.snoc e
theorem rstep_mem {st : List Nat} {c d : Nat} (h : d ∈ rstep st c) : d ∈ st \/ d = c := by
  unfold rstep at h
  by_cases e : st.getLast? = some (ctr c)
  · rw [if_pos e] at h
    exact .inl (List.dropLast_subset _ h)
  · rw [if_neg e] at h
    rcases List.mem_append.mp h with z | z
    · exact .inl z
    · exact .inr (List.mem_singleton.mp z)
theorem rstep_pair {st : List Nat} {x y : Nat} (h : Rdd st) (hy : Lt y) (e : x = ctr y) : rstep (rstep st x) y = st := by
  subst e
  unfold rstep
  by_cases z : st.getLast? = some (ctr (ctr y))
  · rw [if_pos z]
    obtain ⟨m, rfl⟩ := last_snoc z
    rw [List.dropLast_concat, ctr_ctr hy]
    have := h.init.2
    rw [ctr_ctr hy] at this
    rw [if_neg this]
  · rw [if_neg z, if_pos (by simp), List.dropLast_concat]
theorem fold_rdd : ∀ (l st : List Nat), Rdd st -> Rdd (l.foldl rstep st)
  | [], _, h => h
  | _ :: l, _, h => fold_rdd l _ (rstep_rdd h)
theorem red_pair {a b : List Nat} {x y : Nat} (hy : Lt y) (e : x = ctr y) : red (a ++ x :: y :: b) = red (a ++ b) := by
  unfold red
  rw [List.foldl_append, List.foldl_cons, List.foldl_cons, rstep_pair (fold_rdd a [] trivial) hy e, <- List.foldl_append]
theorem fold_same : ∀ (l st : List Nat), Rdd (st ++ l) -> l.foldl rstep st = st ++ l
  | [], st, _ => by simp
  | c :: l, st, h => by
    have h' : Rdd ((st ++ [c]) ++ l) := by rw [List.append_assoc]; exact h
    have h2 := (Rdd.left h').init.2
    rw [List.foldl_cons]
    have : rstep st c = st ++ [c] := by unfold rstep; rw [if_neg h2]
    rw [this, fold_same l (st ++ [c]) h', List.append_assoc]
    rfl
theorem red_same {l : List Nat} (h : Rdd l) : red l = l := by
  exact fold_same l [] h
theorem fold_lt : ∀ (l st : List Nat), (∀ c ∈ l, Lt c) -> (∀ c ∈ st, Lt c) -> ∀ c ∈ l.foldl rstep st, Lt c
  | [], _, _, h => h
  | a :: l, st, h1, h2 => fold_lt l _ (fun c hc => h1 c (List.mem_cons_of_mem _ hc)) fun c hc => (rstep_mem hc).elim (h2 c) fun z => z ▸ h1 a List.mem_cons_self
theorem red_lt {l : List Nat} (h : ∀ c ∈ l, Lt c) : ∀ c ∈ red l, Lt c := fold_lt l [] h fun _ h => absurd h List.not_mem_nil
theorem rstep_len (st : List Nat) (c : Nat) : (rstep st c).length <= st.length + 1 := by
  unfold rstep
  by_cases e : st.getLast? = some (ctr c)
  · rw [if_pos e, List.length_dropLast]; omega
  · rw [if_neg e, List.length_append]; exact Nat.le_refl _
theorem fold_len : ∀ (l st : List Nat), (l.foldl rstep st).length <= st.length + l.length
  | [], _ => Nat.le_refl _
  | c :: l, st => by
    have := fold_len l (rstep st c)
    have h2 := rstep_len st c
    rw [List.foldl_cons, List.length_cons]
    omega
theorem red_len (l : List Nat) : (red l).length <= l.length := by
  have := fold_len l []
  rw [List.length_nil, Nat.zero_add] at this
  exact this
theorem red_take {l : List Nat} {i c : Nat} (h : l[i]? = some c) : red (l.take (i + 1)) = rstep (red (l.take i)) c := by
  unfold red
  rw [<- take_snoc h, List.foldl_append]
  rfl
theorem rdd_of : ∀ {l : List Nat}, (∀ k a b, l[k]? = some a -> l[k + 1]? = some b -> a ≠ ctr b) -> Rdd l
  | [], _ => trivial
  | [_], _ => trivial
  | a :: b :: r, h => ⟨h 0 a b rfl rfl, rdd_of (l := b :: r) fun k x y h1 h2 => h (k + 1) x y (by simpa using h1) (by simpa using h2)⟩
noncomputable def win (l : List Nat) (s e : Nat) : List Nat := (l.drop s).take (e - s)
noncomputable def strip : Nat -> List Nat -> List Nat
  | 0, l => l
  | n + 1, l => match l with
    | [] => []
    | [a] => [a]
    | a :: b :: r => if a = ctr ((b :: r).getLast (by simp)) then strip n (b :: r).dropLast else a :: b :: r
theorem strip_short : ∀ (n : Nat) {l : List Nat}, l.length < 2 -> strip n l = l
  | 0, _, _ => rfl
  | _ + 1, [], _ => rfl
  | _ + 1, [_], _ => rfl
  | _ + 1, _ :: _ :: _, h => by simp at h; omega
theorem getLast_snoc (l : List Nat) (y : Nat) : (l ++ [y]).getLast (by simp) = y := by simp
theorem strip_go (n : Nat) {a y : Nat} {m : List Nat} (h : a = ctr y) : strip (n + 1) (a :: (m ++ [y])) = strip n m := by
  cases m with
  | nil =>
    show (if a = ctr (([y] : List Nat).getLast (by simp)) then strip n ([y] : List Nat).dropLast else _) = strip n []
    rw [if_pos (by simpa using h)]
    rfl
  | cons b r =>
    show (if a = ctr ((b :: (r ++ [y])).getLast (by simp)) then strip n (b :: (r ++ [y])).dropLast else _) = strip n (b :: r)
    have e1 : (b :: (r ++ [y])).getLast (by simp) = y := getLast_snoc (b :: r) y
    have e2 : (b :: (r ++ [y])).dropLast = b :: r := by
      have : b :: (r ++ [y]) = (b :: r) ++ [y] := rfl
      rw [this, List.dropLast_concat]
    rw [if_pos (by rw [e1]; exact h), e2]
theorem strip_stop (n : Nat) {a y : Nat} {m : List Nat} (h : a ≠ ctr y) : strip n (a :: (m ++ [y])) = a :: (m ++ [y]) := by
  cases n with
  | zero => rfl
  | succ n =>
    cases m with
    | nil =>
      show (if a = ctr (([y] : List Nat).getLast (by simp)) then _ else _) = _
      rw [if_neg (by simpa using h)]
      rfl
    | cons b r =>
      show (if a = ctr ((b :: (r ++ [y])).getLast (by simp)) then _ else _) = _
      have e1 : (b :: (r ++ [y])).getLast (by simp) = y := getLast_snoc (b :: r) y
      rw [if_neg (by rw [e1]; exact h)]
      rfl
theorem ends2 {l : List Nat} (h : 2 <= l.length) : ∃ a m y, l = a :: (m ++ [y]) := by
  cases l with
  | nil => simp at h
  | cons a r =>
    rcases snoc_cases r with rfl | ⟨m, y, rfl⟩
    · simp at h
    · exact ⟨a, m, y, rfl⟩
theorem strip_more : ∀ (n : Nat) (l : List Nat) (k : Nat), l.length <= n -> strip (n + k) l = strip n l
  | 0, l, k, h => by rw [strip_short _ (by omega), strip_short _ (by omega)]
  | n + 1, l, k, h => by
    by_cases h2 : l.length < 2
    · rw [strip_short _ h2, strip_short _ h2]
    · obtain ⟨a, m, y, rfl⟩ := ends2 (l := l) (by omega)
      have hm : m.length <= n := by simp at h; omega
      by_cases e : a = ctr y
      · have : n + 1 + k = (n + k) + 1 := by omega
        rw [this, strip_go _ e, strip_go _ e, strip_more n m k hm]
      · rw [strip_stop _ e, strip_stop _ e]
noncomputable def core (l : List Nat) : List Nat := strip l.length l
theorem core_go {a y : Nat} {m : List Nat} (h : a = ctr y) : core (a :: (m ++ [y])) = core m := by
  unfold core
  have : (a :: (m ++ [y])).length = (m.length + 1) + 1 := by simp
  rw [this, strip_go _ h, strip_more _ _ _ (Nat.le_refl _)]
theorem core_stop {a y : Nat} {m : List Nat} (h : a ≠ ctr y) : core (a :: (m ++ [y])) = a :: (m ++ [y]) := strip_stop _ h
theorem core_short {l : List Nat} (h : l.length < 2) : core l = l := strip_short _ h
theorem core_ind {P : List Nat -> List Nat -> Prop} (h1 : ∀ l, l.length < 2 -> P l l) (h2 : ∀ a m y, a ≠ ctr y -> P (a :: (m ++ [y])) (a :: (m ++ [y]))) (h3 : ∀ a m y r, a = ctr y -> P m r -> P (a :: (m ++ [y])) r) : ∀ (n : Nat) (l : List Nat), l.length <= n -> P l (core l)
  | 0, l, h => by rw [core_short (by omega)]; exact h1 l (by omega)
  | n + 1, l, h => by
    by_cases hl : l.length < 2
    · rw [core_short hl]; exact h1 l hl
    · obtain ⟨a, m, y, rfl⟩ := ends2 (l := l) (by omega)
      by_cases e : a = ctr y
      · rw [core_go e]
        exact h3 a m y _ e (core_ind h1 h2 h3 n m (by simp at h; omega))
      · rw [core_stop e]; exact h2 a m y e
theorem core_mem {l : List Nat} {c : Nat} : c ∈ core l -> c ∈ l :=
  core_ind (P := fun l r => c ∈ r -> c ∈ l) (fun _ _ h => h) (fun _ _ _ _ h => h) (fun a m y r _ k h => List.mem_cons_of_mem _ (List.mem_append_left _ (k h))) l.length l (Nat.le_refl _)
theorem core_len (l : List Nat) : (core l).length <= l.length :=
  core_ind (P := fun l r => r.length <= l.length) (fun _ _ => Nat.le_refl _) (fun _ _ _ _ => Nat.le_refl _) (fun a m y r _ k => by simp; omega) l.length l (Nat.le_refl _)
theorem win_go {l : List Nat} {s e : Nat} (h1 : s + 2 <= e) (h2 : e <= l.length) : win l s e = l[s] :: (win l (s + 1) (e - 1) ++ [l[e - 1]]) := by
  unfold win
  rw [List.drop_eq_getElem_cons (by omega)]
  have e1 : e - s = (e - 1 - (s + 1)) + 1 + 1 := by omega
  rw [e1, List.take_succ_cons, List.take_add_one, List.getElem?_drop]
  have e2 : s + 1 + (e - 1 - (s + 1)) = e - 1 := by omega
  rw [e2, List.getElem?_eq_getElem (by omega)]
  rfl
theorem win_len {l : List Nat} {s e : Nat} (h2 : e <= l.length) : (win l s e).length = e - s := by unfold win; rw [List.length_take, List.length_drop]; omega
theorem win_all (l : List Nat) : win l 0 l.length = l := by unfold win; simp
noncomputable def sp_shortened (_ : PySem.W.Frag) : Sp := fun vs H Q _ => ∃ l : List Nat, vs = [.str (S l)] /\ (∀ c ∈ l, Lt c) /\ l.length <= 1000 /\ ∀ H', Same H H' -> Q (.str (S (red l))) H'
theorem len_shortened {K : PySem.W.Frag} {vs : List V} {H : Hp} {Q : VK} {E : XK} (h : sp_shortened K vs H Q E) : vs.length = 1 := by obtain ⟨c, rfl, _⟩ := h; rfl
noncomputable def sp_shortest (_ : PySem.W.Frag) : Sp := fun vs H Q _ => ∃ l : List Nat, vs = [.str (S l)] /\ (∀ c ∈ l, Lt c) /\ l.length <= 1000 /\ ∀ H', Same H H' -> Q (.str (S (core (red l)))) H'
theorem len_shortest {K : PySem.W.Frag} {vs : List V} {H : Hp} {Q : VK} {E : XK} (h : sp_shortest K vs H Q E) : vs.length = 1 := by obtain ⟨c, rfl, _⟩ := h; rfl
theorem cut_to {α : Type} (l : List α) (k : Nat) : cut l none (some (k : Int)) = l.take k := by
  unfold cut
  rw [HT.sIx_none, HT.sIx_nat, List.drop_zero, Nat.sub_zero]
  by_cases h : k <= l.length
  · rw [Nat.min_eq_left h]
  · rw [Nat.min_eq_right (by omega), List.take_of_length_le (Nat.le_refl _), List.take_of_length_le (by omega)]
theorem cut_from {α : Type} (l : List α) (k : Nat) : cut l (some (k : Int)) none = l.drop k := by
  unfold cut
  rw [HT.sIx_none, HT.sIx_nat]
  by_cases h : k <= l.length
  · rw [Nat.min_eq_left h, List.take_of_length_le (by rw [List.length_drop]; exact Nat.le_refl _)]
  · rw [Nat.min_eq_right (by omega), List.drop_of_length_le (Nat.le_refl _), List.drop_of_length_le (by omega)]
    simp
noncomputable def Spot (w : List Nat) (k : Nat) : Prop := ∃ a b, w[k]? = some a /\ w[k + 1]? = some b /\ a = ctr b
theorem spot_split {w : List Nat} {k : Nat} (h : Spot w k) : ∃ a b, w = w.take k ++ a :: b :: w.drop (k + 2) /\ a = ctr b /\ b ∈ w := by
  obtain ⟨a, b, h1, h2, e⟩ := h
  obtain ⟨k1, e1⟩ := List.getElem?_eq_some_iff.mp h1
  obtain ⟨k2, e2⟩ := List.getElem?_eq_some_iff.mp h2
  refine ⟨a, b, ?_, e, List.mem_of_getElem? h2⟩
  have d1 : w.drop k = a :: w.drop (k + 1) := by rw [List.drop_eq_getElem_cons k1, e1]
  have d2 : w.drop (k + 1) = b :: w.drop (k + 2) := by rw [List.drop_eq_getElem_cons k2, e2]
  rw [<- d2, <- d1, List.take_append_drop]
theorem spot_red {w : List Nat} {k : Nat} (h : Spot w k) (hw : ∀ c ∈ w, Lt c) : red (w.take k ++ w.drop (k + 2)) = red w /\ (w.take k ++ w.drop (k + 2)).length + 2 = w.length := by
  obtain ⟨a, b, e, ea, hb⟩ := spot_split h
  constructor
  · have := red_pair (a := w.take k) (b := w.drop (k + 2)) (hw b hb) ea
    rw [<- this, <- e]
  · have := congrArg List.length e
    rw [List.length_append, List.length_cons, List.length_cons] at this
    rw [List.length_append]
    omega
theorem no_spot {w : List Nat} (h : ∀ k, ¬ Spot w k) : red w = w := red_same (rdd_of fun k a b h1 h2 e => h k ⟨a, b, h1, h2, e⟩)
noncomputable def tds (ws : List (List Nat)) : List PyData := ws.map fun l => PyData.str (S l)
theorem rdds_txs {K : PySem.W.Frag} {H : Hp} : ∀ ws : List (List Nat), RdDs K H (txs ws) (tds ws)
  | [] => .nil
  | w :: ws => .cons (.str _) (rdds_txs ws)
theorem str_ok {l : List Nat} (h : ∀ c ∈ l, c < 128) : PyData.strOk (S l) = true := by
  unfold PyData.strOk
  rw [Array.all_eq_true_iff_forall_mem]
  intro c hc
  have : c ∈ l := by simpa [S] using hc
  have := h c this
  simp; omega
theorem lay_txs : ∀ {ws : List (List Nat)}, (∀ l ∈ ws, ∀ c ∈ l, c < 128) -> PyData.canLayAll0 (tds ws) = true
  | [], _ => rfl
  | w :: ws, h => by
    show (PyData.strOk (S w) && PyData.canLayAll0 (tds ws)) = true
    rw [str_ok (h w List.mem_cons_self), lay_txs fun l hl => h l (List.mem_cons_of_mem _ hl)]
    rfl
theorem depth_txs : ∀ ws : List (List Nat), PyData.depthAll (tds ws) = 0
  | [] => rfl
  | k :: ks => by show max (PyData.depth (.str _)) (PyData.depthAll (tds ks)) = 0; rw [depth_txs ks]; rfl
mutual
theorem eqv_refl : ∀ d : PyData, d.hasDict = false -> PyData.eqv d d = true
  | .none, _ => rfl
  | .bool b, _ => by simp [PyData.eqv]
  | .int i, _ => by simp [PyData.eqv]
  | .str x, _ => by simp [PyData.eqv]
  | .list xs, h => by show PyData.eqvAll xs xs = true; exact eqvAll_refl xs (by simpa [PyData.hasDict] using h)
  | .tuple xs, h => by show PyData.eqvAll xs xs = true; exact eqvAll_refl xs (by simpa [PyData.hasDict] using h)
  | .dict kvs, h => by simp [PyData.hasDict] at h
theorem eqvAll_refl : ∀ ds : List PyData, PyData.hasDictAll ds = false -> PyData.eqvAll ds ds = true
  | [], _ => rfl
  | d :: ds, h => by
    simp [PyData.hasDictAll] at h
    show (PyData.eqv d d && PyData.eqvAll ds ds) = true
    rw [eqv_refl d h.1, eqvAll_refl ds h.2]
    rfl
end
theorem cut_mid (a y : Nat) (m : List Nat) : cut (a :: (m ++ [y])) (some 1) (some (((a :: (m ++ [y])).length : Int) - 1)) = m := by
  have hl : (a :: (m ++ [y])).length = m.length + 2 := by simp
  have e : (((a :: (m ++ [y])).length : Int) - 1) = ((m.length + 1 : Nat) : Int) := by rw [hl]; omega
  rw [e]
  unfold cut
  have e1 : HT.sIx (a :: (m ++ [y])).length 0 (some 1) = 1 := by
    have := HT.sIx_nat (a :: (m ++ [y])).length 0 1
    rw [hl] at this ⊢
    rw [show ((1 : Nat) : Int) = 1 from rfl] at this
    rw [this]; omega
  rw [e1, HT.sIx_nat, hl]
  have e2 : min (m.length + 1) (m.length + 2) - 1 = m.length := by omega
  rw [e2]
  show (m ++ [y]).take m.length = m
  simp
noncomputable def rot (c : List Nat) (k : Nat) : List Nat := c.drop k ++ c.take k
noncomputable def rots (c : List Nat) (n : Nat) : List (List Nat) := (List.range n).map fun k => rot c (k + 1)
noncomputable def ringC (c : List Nat) : List Nat := leastOf c (rots c (c.length - 1))
@[irreducible] noncomputable def ringM (w : List Nat) : List Nat := ringC (core (red w))
theorem ringM_eq (w : List Nat) : ringM w = ringC (core (red w)) := by unfold ringM; rfl
theorem rots_snoc (c : List Nat) (n : Nat) : rots c (n + 1) = rots c n ++ [rot c (n + 1)] := by unfold rots; rw [List.range_succ, List.map_append]; rfl
theorem leastOf_snoc : ∀ (r : List (List Nat)) (a b : List Nat), leastOf a (r ++ [b]) = lesser (leastOf a r) b
  | [], _, _ => rfl
  | _ :: r, _, _ => leastOf_snoc r _ _
theorem rot_len (c : List Nat) (k : Nat) : (rot c k).length = c.length := by unfold rot; rw [List.length_append, List.length_drop, List.length_take]; omega
theorem rot_mem {c : List Nat} {k x : Nat} (h : x ∈ rot c k) : x ∈ c := (List.mem_append.mp h).elim List.mem_of_mem_drop List.mem_of_mem_take
theorem leastOf_in : ∀ (r : List (List Nat)) (a : List Nat), leastOf a r = a \/ leastOf a r ∈ r
  | [], a => .inl rfl
  | b :: r, a => by
    rcases leastOf_in r (lesser a b) with h | h
    · have hl : lesser a b = a \/ lesser a b = b := by unfold lesser; split <;> simp
      rcases hl with e | e
      · left; show leastOf (lesser a b) r = a; rw [h, e]
      · right; show leastOf (lesser a b) r ∈ b :: r; rw [h, e]; exact List.mem_cons_self
    · right; exact List.mem_cons_of_mem _ h
theorem ringC_rot (c : List Nat) : ∃ k, ringC c = rot c k := by
  rcases leastOf_in (rots c (c.length - 1)) c with h | h
  · exact ⟨0, by show leastOf _ _ = _; rw [h]; unfold rot; simp⟩
  · unfold rots at h
    obtain ⟨k, _, e⟩ := List.mem_map.mp h
    exact ⟨k + 1, e.symm⟩
theorem core_lt {w : List Nat} (h : ∀ c ∈ w, Lt c) : ∀ c ∈ core (red w), Lt c := fun c hc => red_lt h c (core_mem hc)
theorem ringM_lt {w : List Nat} (h : ∀ c ∈ w, Lt c) : ∀ c ∈ ringM w, Lt c := fun c hc => by
  obtain ⟨k, e⟩ := ringC_rot (core (red w))
  unfold ringM at hc
  rw [e] at hc
  exact core_lt h c (rot_mem hc)
noncomputable def sp_ring (_ : PySem.W.Frag) : Sp := fun vs H Q _ => ∃ l : List Nat, vs = [.str (S l)] /\ (∀ c ∈ l, Lt c) /\ l.length <= 1000 /\ ∀ H', Same H H' -> Q (.str (S (ringM l))) H'
theorem len_ring {K : PySem.W.Frag} {vs : List V} {H : Hp} {Q : VK} {E : XK} (h : sp_ring K vs H Q E) : vs.length = 1 := by obtain ⟨c, rfl, _⟩ := h; rfl
noncomputable def sp_are_one (_ : PySem.W.Frag) : Sp := fun vs H Q _ => ∃ a b : List Nat, vs = [.str (S a), .str (S b)] /\ (∀ c ∈ a, Lt c) /\ a.length <= 1000 /\ (∀ c ∈ b, Lt c) /\ b.length <= 1000 /\ ∀ H', Same H H' -> Q (.bl (decide (ringM a = ringM b))) H'
theorem len_are_one {K : PySem.W.Frag} {vs : List V} {H : Hp} {Q : VK} {E : XK} (h : sp_are_one K vs H Q E) : vs.length = 2 := by obtain ⟨c, d, rfl, _⟩ := h; rfl
noncomputable def sp_Lring (_ : PySem.W.Frag) : Sp := fun vs H Q _ => ∃ l : List Nat, vs = [.str (S l)] /\ (∀ c ∈ l, Lt c) /\ l.length <= 1000 /\ ∀ H', Same H H' -> Q (.str (S (ringM l))) H'
theorem len_Lring {K : PySem.W.Frag} {vs : List V} {H : Hp} {Q : VK} {E : XK} (h : sp_Lring K vs H Q E) : vs.length = 1 := by obtain ⟨c, rfl, _⟩ := h; rfl
theorem sIx_m1 (n d : Nat) : HT.sIx n d (some (-1)) = n - 1 := by
  have e : HT.sIx n d (some (-1)) = (if (-1 : Int) < 0 then ((-1 : Int) + (n : Int)).toNat else min (-1 : Int).toNat n) := rfl
  rw [e, if_pos (by decide)]
  omega
theorem cut_mid1 (a y : Nat) (m : List Nat) : cut (a :: (m ++ [y])) (some 1) (some (-1)) = m := by
  have h := cut_mid a y m
  have hl : (a :: (m ++ [y])).length = m.length + 2 := by simp
  have e1 : (((a :: (m ++ [y])).length : Int) - 1) = ((m.length + 1 : Nat) : Int) := by rw [hl]; omega
  unfold cut at h ⊢
  rw [e1, HT.sIx_nat] at h
  rw [sIx_m1]
  have e2 : min (m.length + 1) (a :: (m ++ [y])).length = (a :: (m ++ [y])).length - 1 := by rw [hl]; omega
  rw [e2] at h
  exact h
theorem rots_all {c : List Nat} {n : Nat} (h1 : 1 <= n) : (List.range n).map (rot c) = c :: rots c (n - 1) := by
  obtain ⟨k, rfl⟩ : ∃ k, n = k + 1 := ⟨n - 1, by omega⟩
  rw [List.range_succ_eq_map, List.map_cons, List.map_map]
  have e : rot c 0 = c := by unfold rot; simp
  rw [e]
  rfl
noncomputable def AllLt (l : List Nat) : Prop := ∀ c ∈ l, Lt c
theorem tnd_cons (c : Nat) (l : List Nat) : tnd (c :: l) = tnd l ++ [ctr c] := by unfold tnd; rw [List.map_cons, List.reverse_cons]
theorem rot_zero (c : List Nat) : rot c 0 = c := by unfold rot; simp
theorem ringC_some (c : List Nat) : ∃ k, k <= c.length /\ ringC c = rot c k := by
  rcases leastOf_in (rots c (c.length - 1)) c with h | h
  · exact ⟨0, Nat.zero_le _, by show leastOf _ _ = _; rw [h, rot_zero]⟩
  · unfold rots at h
    obtain ⟨k, hk, e⟩ := List.mem_map.mp h
    have := List.mem_range.mp hk
    exact ⟨k + 1, by omega, e.symm⟩
theorem rot_app (a b : List Nat) : rot (a ++ b) a.length = b ++ a := by unfold rot; rw [List.drop_left, List.take_left]
theorem rot_rot {c : List Nat} {k j : Nat} (hk : k <= c.length) (hj : j <= c.length) : ∃ i, i <= c.length /\ rot (rot c k) j = rot c i := by
  by_cases z : j <= c.length - k
  · refine ⟨k + j, by omega, ?_⟩
    unfold rot
    rw [List.drop_append_of_le_length (by rw [List.length_drop]; omega), List.take_append_of_le_length (by rw [List.length_drop]; omega), List.drop_drop, List.append_assoc, <- List.take_add]
  · refine ⟨j - (c.length - k), by omega, ?_⟩
    unfold rot
    have e1 : (c.drop k).length = c.length - k := List.length_drop
    rw [List.drop_append, List.take_append, e1, List.drop_of_length_le (by rw [e1]; omega), List.take_of_length_le (l := c.drop k) (by rw [e1]; omega), List.nil_append, List.drop_take, List.take_take]
    have e2 : min (j - (c.length - k)) k = j - (c.length - k) := by omega
    rw [e2]
    have e3 : c.drop (j - (c.length - k)) = (c.drop (j - (c.length - k))).take (k - (j - (c.length - k))) ++ c.drop k := by
      have := List.take_append_drop (k - (j - (c.length - k))) (c.drop (j - (c.length - k)))
      rw [List.drop_drop] at this
      have e : j - (c.length - k) + (k - (j - (c.length - k))) = k := by omega
      rw [e] at this
      exact this.symm
    rw [e3, List.append_assoc]
    congr 2
    exact e3.symm
theorem core_split {r : List Nat} : AllLt r -> ∃ p, AllLt p /\ r = p ++ core r ++ tnd p :=
  core_ind (P := fun l c => AllLt l -> ∃ p, AllLt p /\ l = p ++ c ++ tnd p) (fun l _ _ => ⟨[], fun _ h => absurd h List.not_mem_nil, by simp [tnd]⟩) (fun a m y _ _ => ⟨[], fun _ h => absurd h List.not_mem_nil, by simp [tnd]⟩)
    (fun a m y c e ih h => by
      have ha : Lt a := h a List.mem_cons_self
      have hy : Lt y := h y (by simp)
      obtain ⟨p, hp, e2⟩ := ih fun x hx => h x (by simp [hx])
      refine ⟨a :: p, fun x hx => ?_, ?_⟩
      · rcases List.mem_cons.mp hx with z | z
        · rw [z]; exact ha
        · exact hp x z
      · have e3 : ctr a = y := by rw [e, ctr_ctr hy]
        rw [tnd_cons, e3]
        have : m ++ [y] = p ++ c ++ tnd p ++ [y] := by rw [<- e2]
        rw [this]
        simp [List.append_assoc]) r.length r (Nat.le_refl _)
noncomputable def letters : List Nat := [97, 98, 99, 100, 101, 102, 103, 104, 105, 106, 107, 108, 109, 110, 111, 112, 113, 114, 115, 116, 117, 118, 119, 120, 121, 122, 65, 66, 67, 68, 69, 70, 71, 72, 73, 74, 75, 76, 77, 78, 79, 80, 81, 82, 83, 84, 85, 86, 87, 88, 89, 90]
theorem low_of_small : ∀ c ∈ smalls, isLow c = true /\ PyProof.Rows.lo1 c = c /\ ctr c ∈ caps := by decide +kernel
theorem low_of_cap : ∀ c ∈ caps, isLow c = false /\ PyProof.Rows.lo1 c = ctr c /\ c ∉ smalls /\ ctr c ∈ smalls := by decide +kernel
theorem cap_small : ∀ c ∈ caps, c ∉ smalls := by decide +kernel
theorem isLow_iff {c : Nat} (h : Lt c) : isLow c = decide (c ∈ smalls) := by
  rcases h with h | h
  · rw [(low_of_small c h).1, decide_eq_true h]
  · rw [(low_of_cap c h).1, decide_eq_false (low_of_cap c h).2.2.1]
noncomputable def kept (sm : List Nat) (c : Nat) : Bool := decide (PyProof.Rows.lo1 c ∈ sm)
noncomputable def cyc (i j k : Nat) : Prop := (i < j /\ j < k) \/ (j < k /\ k < i) \/ (k < i /\ i < j)
noncomputable instance (i j k : Nat) : Decidable (cyc i j k) := by unfold cyc; infer_instance
theorem sorted_eq {a b : List Nat} (h : a.Perm b) (ha : a.Pairwise (· <= ·)) (hb : b.Pairwise (· <= ·)) : a = b :=
  List.Perm.eq_of_pairwise (le := fun x y => x <= y) (fun _ _ _ _ h1 h2 => Nat.le_antisymm h1 h2) ha hb h
noncomputable def sp_bands (_ : PySem.W.Frag) : Sp := fun vs H Q _ => ∃ l : List Nat, vs = [.str (S l)] /\ (∀ c ∈ l, c < 128) /\ l.length < 64 /\ ∀ l' H', l'.Perm (l.filter isLow) -> l'.Pairwise (· <= ·) -> Same H H' -> Q (.str (S l')) H'
theorem len_bands {K : PySem.W.Frag} {vs : List V} {H : Hp} {Q : VK} {E : XK} (h : sp_bands K vs H Q E) : vs.length = 1 := by obtain ⟨c, rfl, _⟩ := h; rfl
noncomputable def sp_Lbands (_ : PySem.W.Frag) : Sp := fun vs H Q _ => ∃ y : List Nat, vs = [.str (S y)] /\ y.length < 64 /\ ∀ q l' H', H q = none -> H' q = some (.lst (sgs l')) -> l'.Perm (y.filter fun c => decide (c ∈ smalls)) -> l'.Pairwise (· <= ·) -> Same H H' -> Q (.ref q) H'
theorem len_Lbands {K : PySem.W.Frag} {vs : List V} {H : Hp} {Q : VK} {E : XK} (h : sp_Lbands K vs H Q E) : vs.length = 1 := by obtain ⟨c, rfl, _⟩ := h; rfl
theorem filter_take {p : Nat -> Bool} {l : List Nat} {i c : Nat} (h : l[i]? = some c) : (l.take (i + 1)).filter p = (l.take i).filter p ++ if p c = true then [c] else [] := by
  rw [<- take_snoc h, List.filter_append]
  congr 1
  by_cases z : p c = true
  · rw [if_pos z, List.filter_cons_of_pos z]; rfl
  · rw [if_neg z, List.filter_cons_of_neg z]; rfl
theorem half_low {y : List Nat} (h : Yd y) : 2 * (y.filter isLow).length = y.length := by
  have key : ∀ p q : Nat -> Bool, (∀ c ∈ y, p c = true -> q (ctr c) = true) -> (y.filter p).length <= (y.filter q).length := fun p q hpq => by
    have hn : ((y.filter p).map ctr).Nodup := by
      show ((y.filter p).map ctr).Pairwise (· ≠ ·)
      rw [List.pairwise_map]
      refine (h.nd.filter p).imp_of_mem fun {a b} ha hb z e => z ?_
      exact ctr_inj (h.lt a (List.mem_filter.mp ha).1) (h.lt b (List.mem_filter.mp hb).1) e
    have := hn.length_le_of_subset (l₂ := y.filter q) fun c hc => by
      obtain ⟨d, hd, rfl⟩ := List.mem_map.mp hc
      obtain ⟨d1, d2⟩ := List.mem_filter.mp hd
      exact List.mem_filter.mpr ⟨h.cl d d1, hpq d d1 d2⟩
    rwa [List.length_map] at this
  have k1 := key isLow (fun c => !isLow c) fun c hc z => by
    rw [isLow_iff (h.lt c hc)] at z
    have hs := of_decide_eq_true z
    rw [(low_of_cap _ (low_of_small c hs).2.2).1]; rfl
  have k2 := key (fun c => !isLow c) isLow fun c hc z => by
    rcases h.lt c hc with q | q
    · rw [(low_of_small c q).1] at z; cases z
    · exact (low_of_small _ (low_of_cap c q).2.2.2).1
  have k3 : (y.filter isLow).length + (y.filter fun c => !isLow c).length = y.length := by
    clear k1 k2 key h
    induction y with
    | nil => rfl
    | cons a r ih =>
      cases hq : isLow a
      · rw [List.filter_cons_of_neg (by simp [hq]), List.filter_cons_of_pos (by simp [hq]), List.length_cons, List.length_cons]; omega
      · rw [List.filter_cons_of_pos hq, List.filter_cons_of_neg (by simp [hq]), List.length_cons, List.length_cons]; omega
  omega
noncomputable def bsOf (y : List Nat) : List Nat := (y.filter isLow).mergeSort fun a b => decide (a <= b)
theorem bsOf_perm (y : List Nat) : (bsOf y).Perm (y.filter isLow) := List.mergeSort_perm _ _
theorem bsOf_sorted (y : List Nat) : (bsOf y).Pairwise (· <= ·) :=
  (List.pairwise_mergeSort (le := fun a b => decide (a <= b)) (fun a b c h1 h2 => decide_eq_true (Nat.le_trans (of_decide_eq_true h1) (of_decide_eq_true h2))) (fun a b => by
    rcases Nat.le_total a b with z | z
    · rw [decide_eq_true z]; rfl
    · rw [decide_eq_true z, Bool.or_true]) (y.filter isLow)).imp fun z => of_decide_eq_true z
theorem bsOf_eq {y l : List Nat} (h : l.Perm (y.filter isLow)) (p : l.Pairwise (· <= ·)) : l = bsOf y := sorted_eq (h.trans (bsOf_perm y).symm) p (bsOf_sorted y)
theorem smalls_low {y : List Nat} (h : ∀ c ∈ y, Lt c) : (y.filter fun c => decide (c ∈ smalls)) = y.filter isLow := List.filter_congr fun c hc => (isLow_iff (h c hc)).symm
theorem lo_in {y : List Nat} (h : Yd y) {e : Nat} (he : e ∈ y) : PyProof.Rows.lo1 e ∈ bsOf y := by
  refine (bsOf_perm y).mem_iff.mpr (List.mem_filter.mpr ?_)
  rcases h.lt e he with z | z
  · rw [(low_of_small e z).2.1]; exact ⟨he, (low_of_small e z).1⟩
  · rw [(low_of_cap e z).2.1]; exact ⟨h.cl e he, (low_of_small _ (low_of_cap e z).2.2.2).1⟩
theorem bsOf_len {y : List Nat} (h : Yd y) : 2 * (bsOf y).length = y.length := by rw [(bsOf_perm y).length_eq]; exact half_low h
structure Pr where
  t : Addr
  c : Nat
  i : Nat
noncomputable def prv (ps : List Pr) : List V := ps.map fun p => V.ref p.t
theorem prv_len (ps : List Pr) : (prv ps).length = ps.length := by unfold prv; rw [List.length_map]
theorem prv_app (a b : List Pr) : prv a ++ prv b = prv (a ++ b) := by unfold prv; rw [List.map_append]
theorem prv_snoc (a : List Pr) (p : Pr) : prv a ++ [V.ref p.t] = prv (a ++ [p]) := by unfold prv; rw [List.map_append]; rfl
theorem prv_at {ps : List Pr} {i : Nat} {x : V} (h : (prv ps)[i]? = some x) : ∃ p, ps[i]? = some p /\ x = V.ref p.t := by
  unfold prv at h
  rw [List.getElem?_map] at h
  cases e : ps[i]? with
  | none => rw [e] at h; cases h
  | some p => rw [e] at h; cases h; exact ⟨p, rfl, rfl⟩
structure PrOk (H : Hp) (p : Pr) : Prop where
  tp : H p.t = some (.tup [.int p.c, .int p.i])
  cz : p.c < 1000
  iz : p.i < 1000
theorem PrOk.same {H H' : Hp} {p : Pr} (h : PrOk H p) (s : Same H H') : PrOk H' p := ⟨s _ _ h.tp, h.cz, h.iz⟩
structure Od where
  o : Addr
  ps : List Pr
structure OdOk (H : Hp) (o : Od) : Prop where
  tp : H o.o = some (.tup (prv o.ps))
  pr : ∀ p ∈ o.ps, PrOk H p
  fw : o.ps.length <= 100
theorem OdOk.same {H H' : Hp} {o : Od} (h : OdOk H o) (s : Same H H') : OdOk H' o := ⟨s _ _ h.tp, fun p hp => (h.pr p hp).same s, h.fw⟩
noncomputable def odv (os : List Od) : List V := os.map fun o => V.ref o.o
theorem odv_len (os : List Od) : (odv os).length = os.length := by unfold odv; rw [List.length_map]
theorem odv_snoc (a : List Od) (p : Od) : odv a ++ [V.ref p.o] = odv (a ++ [p]) := by unfold odv; rw [List.map_append]; rfl
theorem odv_at {os : List Od} {i : Nat} {o : Od} (h : os[i]? = some o) : (odv os)[i]? = some (V.ref o.o) := by unfold odv; rw [List.getElem?_map, h]; rfl
structure DrAt (H : Hp) (dr : Addr) (ws : List (List Nat)) (os : List Od) : Prop where
  ex : ∃ wt ot, H dr = some (.tup [.ref wt, .ref ot]) /\ H wt = some (.tup (txs ws)) /\ H ot = some (.tup (odv os))
  od : ∀ o ∈ os, OdOk H o
theorem DrAt.same {H H' : Hp} {dr : Addr} {ws : List (List Nat)} {os : List Od} (h : DrAt H dr ws os) (s : Same H H') : DrAt H' dr ws os := by
  obtain ⟨⟨wt, ot, h1, h2, h3⟩, g⟩ := h
  exact ⟨⟨wt, ot, s _ _ h1, s _ _ h2, s _ _ h3⟩, fun o ho => (g o ho).same s⟩
structure Pt where
  t : Addr
  c : Nat
  i : Nat
  e : Nat
noncomputable def Pt.is (p : Pt) : Nat × Nat × Nat := (p.c, p.i, p.e)
structure PtOk (H : Hp) (p : Pt) : Prop where
  tp : H p.t = some (.tup [.int p.c, .int p.i, .str (S [p.e])])
  cz : p.c < 1000
  iz : p.i < 1000
  ez : p.e < 128
noncomputable def ThingsAt (K : PySem.W.Frag) (H : Hp) (x : V) (ys : List V) : Prop := (∃ p, x = .ref p /\ (SqL K H p ys \/ SqT K H p ys)) \/ ∃ l : List Nat, x = .str (S l) /\ ys = sgs l
noncomputable def sp_Lorder (K : PySem.W.Frag) : Sp := fun vs H Q _ => ∃ (b : Addr) (x : V) (ys : List V), vs = [.ref b, x] /\ BoxAt H b /\ ThingsAt K H x ys /\ ys.length <= 1000 /\ ∀ q ys' H', H q = none -> q ≠ b -> H' q = some (.lst ys') -> ys'.Perm ys -> BoxAt H' b -> SameB b H H' -> Q (.ref q) H'
theorem len_Lorder {K : PySem.W.Frag} {vs : List V} {H : Hp} {Q : VK} {E : XK} (h : sp_Lorder K vs H Q E) : vs.length = 2 := by obtain ⟨c, _, _, rfl, _⟩ := h; rfl
theorem perm_unmap {α β : Type} {f : α -> β} {ys zs : List β} (h : ys.Perm zs) : ∀ l : List α, zs = l.map f -> ∃ l' : List α, ys = l'.map f /\ l'.Perm l := by
  induction h with
  | nil => intro l e; cases l with
    | nil => exact ⟨[], rfl, List.Perm.refl _⟩
    | cons a l => cases e
  | cons x h ih =>
    intro l e
    cases l with
    | nil => cases e
    | cons a l =>
      injection e with e1 e2
      obtain ⟨l', g1, g2⟩ := ih l e2
      exact ⟨a :: l', by rw [g1, e1]; rfl, g2.cons a⟩
  | swap x y t =>
    intro l e
    cases l with
    | nil => cases e
    | cons a l =>
      cases l with
      | nil => cases e
      | cons b l =>
        injection e with e1 e2
        injection e2 with e2 e3
        exact ⟨b :: a :: l, by rw [e1, e2, e3]; rfl, List.Perm.swap a b l⟩
  | trans h1 h2 i1 i2 =>
    intro l e
    obtain ⟨l1, g1, g2⟩ := i2 l e
    obtain ⟨l2, g3, g4⟩ := i1 l1 g1
    exact ⟨l2, g3, g4.trans g2⟩
noncomputable def Pr.pair (p : Pr) : Nat × Nat := (p.c, p.i)
noncomputable def onB (band l : Nat) : Bool := decide (l = band) || decide (l = ctr band)
noncomputable def strUp (band c : Nat) (w : List Nat) (n : Nat) : List (Nat × Nat) := ((List.range n).filter fun i => onB band (w.getD i 0)).map fun i => (c, i)
noncomputable def strAll (band : Nat) (ws : List (List Nat)) (n : Nat) : List (Nat × Nat) := (List.range n).flatMap fun c => strUp band c (ws.getD c []) (ws.getD c []).length
theorem strUp_succ {band c i l : Nat} {w : List Nat} (h : w[i]? = some l) : strUp band c w (i + 1) = strUp band c w i ++ if onB band l = true then [(c, i)] else [] := by
  have e : w.getD i 0 = l := by rw [List.getD_eq_getElem?_getD, h]; rfl
  unfold strUp
  rw [List.range_succ, List.filter_append, List.map_append]
  congr 1
  by_cases z : onB band l = true
  · rw [if_pos z, List.filter_cons_of_pos (by rw [e]; exact z)]; rfl
  · rw [if_neg z, List.filter_cons_of_neg (by rw [e]; exact z)]; rfl
theorem strAll_succ {band i : Nat} {ws : List (List Nat)} {w : List Nat} (h : ws[i]? = some w) : strAll band ws (i + 1) = strAll band ws i ++ strUp band i w w.length := by
  have e : ws.getD i [] = w := by rw [List.getD_eq_getElem?_getD, h]; rfl
  unfold strAll
  rw [List.range_succ, List.flatMap_append]
  congr 1
  rw [List.flatMap_cons, List.flatMap_nil, List.append_nil, e]
theorem strUp_len (band c : Nat) (w : List Nat) (n : Nat) : (strUp band c w n).length <= n := by
  unfold strUp
  rw [List.length_map]
  exact Nat.le_trans (List.length_filter_le _ _) (by rw [List.length_range]; exact Nat.le_refl _)
structure WsOk (y : List Nat) (ws : List (List Nat)) : Prop where
  few : ws.length <= 4
  all : ∀ w ∈ ws, (∀ c ∈ w, c ∈ y) /\ w.length <= 12
noncomputable def OsOk (y : List Nat) (ws : List (List Nat)) (os : List Od) : Prop := os.length = (bsOf y).length /\ ∀ (j : Nat) (o : Od) (b : Nat), os[j]? = some o -> (bsOf y)[j]? = some b -> (o.ps.map Pr.pair).Perm (strAll b ws ws.length)
noncomputable def sp_Lwords (_ : PySem.W.Frag) : Sp := fun vs H Q _ => ∃ (b : Addr) (y : List Nat), vs = [.ref b, .str (S y)] /\ BoxAt H b /\ y ≠ [] /\ y.length <= 8 /\ ∀ (t : Addr) (ws : List (List Nat)) (H' : Hp), H t = none -> t ≠ b -> H' t = some (.tup (txs ws)) -> WsOk y ws -> BoxAt H' b -> SameB b H H' -> Q (.ref t) H'
theorem len_Lwords {K : PySem.W.Frag} {vs : List V} {H : Hp} {Q : VK} {E : XK} (h : sp_Lwords K vs H Q E) : vs.length = 2 := by obtain ⟨c, _, rfl, _⟩ := h; rfl
noncomputable def sp_Ldrawing (_ : PySem.W.Frag) : Sp := fun vs H Q _ => ∃ (b : Addr) (y : List Nat) (wt : Addr) (ws : List (List Nat)), vs = [.ref b, .str (S y), .ref wt] /\ BoxAt H b /\ Yd y /\ y.length <= 8 /\ wt ≠ b /\ H wt = some (.tup (txs ws)) /\ WsOk y ws /\ ∀ (dr : Addr) (os : List Od) (H' : Hp), DrAt H' dr ws os -> OsOk y ws os -> BoxAt H' b -> SameB b H H' -> Q (.ref dr) H'
theorem len_Ldrawing {K : PySem.W.Frag} {vs : List V} {H : Hp} {Q : VK} {E : XK} (h : sp_Ldrawing K vs H Q E) : vs.length = 3 := by obtain ⟨c, _, _, _, rfl, _⟩ := h; rfl
theorem TSame.box {H H' : Hp} {b : Addr} (h : BoxAt H b) (s : SameB b H H') : TSame H H' := fun c xs e => s c _ e fun z => by
  obtain ⟨x, y, g⟩ := h
  rw [z, g] at e; cases e
theorem PrOk.ts {H H' : Hp} {p : Pr} (h : PrOk H p) (s : TSame H H') : PrOk H' p := ⟨s _ _ h.tp, h.cz, h.iz⟩
theorem OdOk.ts {H H' : Hp} {o : Od} (h : OdOk H o) (s : TSame H H') : OdOk H' o := ⟨s _ _ h.tp, fun p hp => (h.pr p hp).ts s, h.fw⟩
theorem low_on {band l : Nat} (hb : band ∈ smalls) (hl : Lt l) : decide (PyProof.Rows.lo1 l = band) = onB band l := by
  unfold onB
  rcases hl with h | h
  · have e := (low_of_small l h).2.1
    have n : l ≠ ctr band := fun z => cap_small _ (low_of_small band hb).2.2 (z ▸ h)
    rw [e, decide_eq_false n, Bool.or_false]
  · have e := (low_of_cap l h).2.1
    have n : l ≠ band := fun z => cap_small l h (z ▸ hb)
    rw [e, decide_eq_false n, Bool.false_or]
    refine decide_eq_decide.mpr ⟨fun z => by rw [<- z, ctr_ctr (.inr h)], fun z => by rw [z, ctr_ctr (.inl hb)]⟩
noncomputable def pz (p : Nat × Nat) : Int × Int := (p.1, p.2)
theorem strAll_len (band : Nat) {ws : List (List Nat)} (hw : ∀ w ∈ ws, w.length <= 12) : ∀ n, n <= ws.length -> (strAll band ws n).length <= 12 * n
  | 0, _ => Nat.le_refl _
  | n + 1, h => by
    have hn : n < ws.length := by omega
    rw [strAll_succ (List.getElem?_eq_getElem hn), List.length_append]
    have h1 := strAll_len band hw n (by omega)
    have h2 := strUp_len band n ws[n] ws[n].length
    have h3 := hw _ (List.getElem_mem hn)
    omega
noncomputable def prD (p : Nat × Nat) : PyData := .tuple [.int p.1, .int p.2]
theorem rdds_prs {K : PySem.W.Frag} {H : Hp} : ∀ {ps : List Pr}, (∀ p ∈ ps, PrOk H p) -> RdDs K H (prv ps) ((ps.map Pr.pair).map prD)
  | [], _ => .nil
  | p :: ps, h => .cons (.tup (SqT.of (h p List.mem_cons_self).tp) (.cons (.int _) (.cons (.int _) .nil))) (rdds_prs fun q hq => h q (List.mem_cons_of_mem _ hq))
theorem sms_prs {H : Hp} {ps : List Pr} (h : ∀ p ∈ ps, PrOk H p) {k : Nat} : SmDs (k + 1) (90 * ps.length) ((ps.map Pr.pair).map prD) := by
  refine .all (a := 89) (fun x hx => ?_) (by rw [List.length_map, List.length_map]; omega)
  obtain ⟨q, hq, rfl⟩ := List.mem_map.mp hx
  obtain ⟨p, hp, rfl⟩ := List.mem_map.mp hq
  have ok := h p hp
  have b1 : (p.c : Int).natAbs < 10 ^ 12 := by have := ok.cz; omega
  have b2 : (p.i : Int).natAbs < 10 ^ 12 := by have := ok.iz; omega
  exact .tup (.cons (a := 40) (b := 41) (.int b1 (by decide)) (.cons (a := 40) (b := 0) (.int b2 (by decide)) .nil (by decide)) (by decide))
theorem dict_prs : ∀ ns : List (Nat × Nat), PyData.hasDictAll (ns.map prD) = false
  | [] => rfl
  | n :: ns => by show (PyData.hasDict (prD n) || PyData.hasDictAll (ns.map prD)) = false; rw [dict_prs ns]; rfl
noncomputable def odD (o : Od) : PyData := .tuple ((o.ps.map Pr.pair).map prD)
theorem rdds_ods {K : PySem.W.Frag} {H : Hp} : ∀ {os : List Od}, (∀ o ∈ os, OdOk H o) -> RdDs K H (odv os) (os.map odD)
  | [], _ => .nil
  | o :: os, h => .cons (.tup (SqT.of (h o List.mem_cons_self).tp) (rdds_prs (h o List.mem_cons_self).pr)) (rdds_ods fun q hq => h q (List.mem_cons_of_mem _ hq))
noncomputable def OsEx (y : List Nat) (ws : List (List Nat)) (os : List Od) : Prop := os.map (fun o => o.ps.map Pr.pair) = (bsOf y).map fun b => strAll b ws ws.length
theorem sm_dr {H : Hp} {ws : List (List Nat)} {os : List Od} (hw : ∀ w ∈ ws, (∀ c ∈ w, c < 128) /\ w.length <= 12) (hf : ws.length <= 4) (ho : ∀ o ∈ os, OdOk H o) (hz : os.length <= 4) : SmD 40 100000 (.tuple [.tuple (tds ws), .tuple (os.map odD)]) := by
  have s1 : SmD 39 60 (.tuple (tds ws)) := .tup (.all (a := 12) (fun x hx => by
    obtain ⟨w, hw', rfl⟩ := List.mem_map.mp hx
    exact .str (hw w hw').1 (hw w hw').2) (by unfold tds; rw [List.length_map]; omega))
  have s2 : SmD 39 40000 (.tuple (os.map odD)) := .tup (.all (a := 9000) (fun x hx => by
    obtain ⟨o, ho', rfl⟩ := List.mem_map.mp hx
    have k := ho o ho'
    have m := sms_prs (k := 36) k.pr
    exact .tup ⟨m.lv, m.sh, m.ly, m.dp, Nat.le_trans m.wt (by have := k.fw; omega)⟩) (by rw [List.length_map]; omega))
  exact .tup (.cons (a := 60) (b := 40001) s1 (.cons (a := 40000) (b := 0) s2 .nil (by decide)) (by decide))
structure Ask where
  t : Addr
  u : List Nat
  wt : Addr
  ws : List (List Nat)
  ot : Addr
  os : List Od
structure AskOk (H : Hp) (k : Ask) : Prop where
  tp : H k.t = some (.tup [.str (S k.u), .ref k.wt, .ref k.ot])
  yd : Yd k.u
  yz : k.u.length <= 8
  wo : WsOk k.u k.ws
  hw : H k.wt = some (.tup (txs k.ws))
  ho : H k.ot = some (.tup (odv k.os))
  od : ∀ o ∈ k.os, OdOk H o
  ex : OsEx k.u k.ws k.os
noncomputable def kS (l : List Nat) : Key := Sum.inr (S l)
theorem kS_inj {a b : List Nat} (h : kS a = kS b) : a = b := by rw [<- S_list a, Sum.inr.inj h, S_list]
structure LdOk (H : Hp) (o : Od) : Prop where
  tp : H o.o = some (.lst (prv o.ps))
  pr : ∀ p ∈ o.ps, PrOk H p
  fw : o.ps.length <= 100
noncomputable def ordK (bs : List Nat) (os : List Od) : List (Key × V) := (bs.zip os).map fun x => (kS [x.1], V.ref x.2.o)
structure OrdAt (H : Hp) (d : Addr) (bs : List Nat) (os : List Od) : Prop where
  dk : H d = some (.dK (ordK bs os))
  ln : os.length = bs.length
  nd : (os.map Od.o).Nodup
  ok : ∀ o ∈ os, LdOk H o
theorem ordK_len {bs : List Nat} {os : List Od} (h : os.length = bs.length) : (ordK bs os).length = bs.length := by unfold ordK; rw [List.length_map, List.length_zip]; omega
theorem ordK_keys : ∀ {bs : List Nat} {os : List Od}, os.length = bs.length -> (ordK bs os).map (fun kv => kV kv.1) = sgs bs
  | [], [], _ => rfl
  | b :: bs, o :: os, h => by
    show kV (kS [b]) :: (ordK bs os).map (fun kv => kV kv.1) = V.str (S [b]) :: sgs bs
    rw [ordK_keys (by simpa using h)]
    rfl
theorem ordK_get : ∀ {bs : List Nat} {os : List Od} {j : Nat} {b : Nat} {o : Od}, bs.Nodup -> bs[j]? = some b -> os[j]? = some o -> valV (ordK bs os) (kS [b]) = some (.ref o.o)
  | b' :: bs, o' :: os, 0, b, o, _, hb, ho => by
    cases hb; cases ho
    exact valV_pos rfl
  | b' :: bs, o' :: os, j + 1, b, o, nd, hb, ho => by
    obtain ⟨n1, n2⟩ := List.nodup_cons.mp nd
    have hne : kS [b'] ≠ kS [b] := fun z => n1 (by
      have := List.mem_of_getElem? (show bs[j]? = some b by simpa using hb)
      rw [(List.cons.inj (kS_inj z)).1]; exact this)
    show valV ((kS [b'], V.ref o'.o) :: ordK bs os) (kS [b]) = _
    rw [valV_neg hne]
    exact ordK_get n2 (by simpa using hb) (by simpa using ho)
theorem ordK_none : ∀ {bs : List Nat} {os : List Od} {b : Nat}, b ∉ bs -> valV (ordK bs os) (kS [b]) = none
  | [], _, _, _ => rfl
  | _ :: _, [], _, _ => rfl
  | b' :: bs, o' :: os, b, h => by
    show valV ((kS [b'], V.ref o'.o) :: ordK bs os) (kS [b]) = none
    rw [valV_neg fun z => h (by rw [<- (List.cons.inj (kS_inj z)).1]; exact List.mem_cons_self)]
    exact ordK_none fun z => h (List.mem_cons_of_mem _ z)
theorem ordK_put : ∀ {bs : List Nat} {os : List Od} {j : Nat} {b : Nat} {o' : Od}, bs.Nodup -> os.length = bs.length -> bs[j]? = some b -> putK (ordK bs os) (kS [b]) (.ref o'.o) = ordK bs (os.set j o') := by
  intro bs os j b o' nd hl hb
  have hj : j < os.length := by rw [hl]; exact (List.getElem?_eq_some_iff.mp hb).1
  have hs : (valV (ordK bs os) (kS [b])).isSome = true := by rw [ordK_get nd hb (List.getElem?_eq_getElem hj)]; rfl
  unfold putK
  rw [valV_any, if_pos hs]
  clear hs
  induction bs generalizing os j with
  | nil => simp at hb
  | cons b0 bs ih =>
    cases os with
    | nil => simp at hj
    | cons o0 os =>
      obtain ⟨n1, n2⟩ := List.nodup_cons.mp nd
      cases j with
      | zero =>
        have hbb : b0 = b := by simpa using hb
        subst hbb
        show (if kS [b0] = kS [b0] then (kS [b0], V.ref o'.o) else _) :: (ordK bs os).map _ = (kS [b0], V.ref o'.o) :: ordK bs os
        rw [if_pos rfl]
        congr 1
        have : ∀ kv ∈ ordK bs os, (if kv.1 = kS [b0] then (kv.1, V.ref o'.o) else kv) = kv := fun kv hkv => by
          unfold ordK at hkv
          obtain ⟨x, hx, rfl⟩ := List.mem_map.mp hkv
          rw [if_neg]
          intro z
          have := (List.of_mem_zip (show (x.1, x.2) ∈ bs.zip os from hx)).1
          rw [(List.cons.inj (kS_inj z)).1] at this
          exact n1 this
        rw [List.map_congr_left this, List.map_id']
      | succ j =>
        have hb' : bs[j]? = some b := by simpa using hb
        have hne : kS [b0] ≠ kS [b] := fun z => n1 (by rw [(List.cons.inj (kS_inj z)).1]; exact List.mem_of_getElem? hb')
        show (if kS [b0] = kS [b] then _ else (kS [b0], V.ref o0.o)) :: (ordK bs os).map _ = (kS [b0], V.ref o0.o) :: ordK bs (os.set j o')
        rw [if_neg hne]
        congr 1
        exact ih n2 (by simpa using hl) hb' (by simpa using hj)
noncomputable def ren1 (c : Nat) (f : Nat -> Option Nat) (p : Nat × Nat) : Option (Nat × Nat) := if p.1 = c then (f p.2).map fun j => (c, j) else some p
noncomputable def renM (c : Nat) (f : Nat -> Option Nat) (ps : List (Nat × Nat)) : List (Nat × Nat) := ps.filterMap (ren1 c f)
noncomputable def prs (o : Od) : List (Nat × Nat) := o.ps.map Pr.pair
noncomputable def sp_renumber (_ : PySem.W.Frag) : Sp := fun vs H Q _ => ∃ (d : Addr) (c : Nat) (pp : Addr) (bs : List Nat) (os : List Od) (xs : List V) (f : Nat -> Option Nat), vs = [.ref d, .int c, .ref pp] /\ OrdAt H d bs os /\ bs.Nodup /\ bs.length <= 100 /\ c < 1000 /\ H pp = some (.lst xs) /\
  (∀ o ∈ os, ∀ p ∈ o.ps, p.c = c -> xs[p.i]? = some (match f p.i with | none => V.non | some j => V.int (j : Nat))) /\ (∀ o ∈ os, ∀ p ∈ o.ps, p.c = c -> ∀ j, f p.i = some j -> j < 1000) /\
  ∀ (os' : List Od) (H' : Hp), OrdAt H' d bs os' -> os'.map prs = os.map (fun o => renM c f (prs o)) -> (∀ o ∈ os', H o.o = none) -> SameB d H H' -> Q .non H'
theorem len_renumber {K : PySem.W.Frag} {vs : List V} {H : Hp} {Q : VK} {E : XK} (h : sp_renumber K vs H Q E) : vs.length = 3 := by obtain ⟨_, _, _, _, _, _, _, rfl, _⟩ := h; rfl
theorem LdOk.sameB {H H' : Hp} {d : Addr} {o : Od} (h : LdOk H o) (s : SameB d H H') (hd : o.o ≠ d) (t : TSame H H') : LdOk H' o := ⟨s _ _ h.tp hd, fun p hp => (h.pr p hp).ts t, h.fw⟩
theorem LdOk.same {H H' : Hp} {o : Od} (h : LdOk H o) (s : Same H H') : LdOk H' o := ⟨s _ _ h.tp, fun p hp => (h.pr p hp).same s, h.fw⟩
theorem OrdAt.same {H H' : Hp} {d : Addr} {bs : List Nat} {os : List Od} (h : OrdAt H d bs os) (s : Same H H') : OrdAt H' d bs os := ⟨s _ _ h.dk, h.ln, h.nd, fun o ho => (h.ok o ho).same s⟩
theorem OrdAt.ne {H : Hp} {d : Addr} {bs : List Nat} {os : List Od} (h : OrdAt H d bs os) {o : Od} (ho : o ∈ os) : o.o ≠ d := fun z => by
  have := (h.ok o ho).tp
  rw [z, h.dk] at this
  cases this
theorem nodup_set {l : List Addr} (h : l.Nodup) : ∀ {j : Nat} {a : Addr}, a ∉ l -> (l.set j a).Nodup := by
  induction l with
  | nil => intro j a _; exact h
  | cons x l ih =>
    obtain ⟨n1, n2⟩ := List.nodup_cons.mp h
    intro j a ha
    cases j with
    | zero => exact List.nodup_cons.mpr ⟨fun z => ha (List.mem_cons_of_mem _ z), n2⟩
    | succ j =>
      refine List.nodup_cons.mpr ⟨fun z => ?_, ih n2 fun z => ha (List.mem_cons_of_mem _ z)⟩
      rcases List.mem_or_eq_of_mem_set z with g | g
      · exact n1 g
      · exact ha (by rw [<- g]; exact List.mem_cons_self)
theorem OrdAt.put {H : Hp} {d : Addr} {bs : List Nat} {os : List Od} {j : Nat} {b : Nat} {o' : Od} (h : OrdAt H d bs os) (nd : bs.Nodup) (hb : bs[j]? = some b) (ho : LdOk H o') (hd : o'.o ≠ d) (hn : ∀ o ∈ os, o.o ≠ o'.o) :
    OrdAt (upd H d (.dK (putK (ordK bs os) (kS [b]) (.ref o'.o)))) d bs (os.set j o') := by
  have hdk := h.dk
  have up : ∀ {x : Od}, LdOk H x -> x.o ≠ d -> LdOk (upd H d (.dK (putK (ordK bs os) (kS [b]) (.ref o'.o)))) x := fun {x} hx hne =>
    ⟨by rw [upd_ne hne]; exact hx.tp, fun p hp => ⟨by rw [upd_ne (fun z => by have := (hx.pr p hp).tp; rw [z, hdk] at this; cases this)]; exact (hx.pr p hp).tp, (hx.pr p hp).cz, (hx.pr p hp).iz⟩, hx.fw⟩
  refine ⟨by rw [upd_same, ordK_put nd h.ln hb], by rw [List.length_set]; exact h.ln, ?_, fun x hx => ?_⟩
  · rw [List.map_set]
    exact nodup_set h.nd fun z => by
      obtain ⟨o, ho1, ho2⟩ := List.mem_map.mp z
      exact hn o ho1 ho2
  · rcases List.mem_or_eq_of_mem_set hx with g | g
    · exact up (h.ok x g) (h.ne g)
    · rw [g]; exact up ho hd
theorem set_drop {α : Type} (l : List α) (i : Nat) (a : α) : (l.set i a).drop (i + 1) = l.drop (i + 1) := by
  induction l generalizing i with
  | nil => rfl
  | cons x l ih => cases i with
    | zero => rfl
    | succ i => exact ih i
theorem set_take {α : Type} (l : List α) (i : Nat) (a : α) (h : i < l.length) : (l.set i a).take (i + 1) = l.take i ++ [a] := by
  induction l generalizing i with
  | nil => simp at h
  | cons x l ih => cases i with
    | zero => rfl
    | succ i => show x :: (l.set i a).take (i + 1) = x :: (l.take i ++ [a]); rw [ih i (by simpa using h)]
theorem renM_snoc (c : Nat) (f : Nat -> Option Nat) (l : List (Nat × Nat)) (p : Nat × Nat) : renM c f (l ++ [p]) = renM c f l ++ (ren1 c f p).toList := by
  unfold renM
  rw [List.filterMap_append]
  cases h : ren1 c f p <;> simp [List.filterMap_cons, h]
noncomputable def SameX (a b : Addr) (H H' : Hp) : Prop := ∀ x u, H x = some u -> x ≠ a -> x ≠ b -> H' x = some u
noncomputable def swapAt (n : Nat) (l : List Pr) : List Pr := match l[n]?, l[n + 1]? with | some p, some q => (l.set n q).set (n + 1) p | _, _ => l
noncomputable def outF (k i : Nat) : Option Nat := if i < k then some i else if i < k + 2 then none else some (i - 2)
noncomputable def inF (k i : Nat) : Option Nat := if i < k then some i else some (i + 2)
noncomputable def turnF (n i : Nat) : Option Nat := if i = 0 then some (n - 1) else some (i - 1)
noncomputable def fV (o : Option Nat) : V := match o with | none => V.non | some j => V.int (j : Nat)
structure Hold (H : Hp) (d wl : Addr) (bs : List Nat) (os : List Od) (ws : List (List Nat)) : Prop where
  od : OrdAt H d bs os
  wd : H wl = some (.lst (txs ws))
  nd : bs.Nodup
  bl : bs.length <= 100
  ne : ∀ o ∈ os, o.o ≠ wl
  pz : ∀ o ∈ os, ∀ p ∈ o.ps, ∃ w, ws[p.c]? = some w /\ p.i < w.length
  wz : ws.length <= 4
  wo : ∀ w ∈ ws, (∀ c ∈ w, Lt c) /\ w.length <= 12
noncomputable def sp_do_swap (_ : PySem.W.Frag) : Sp := fun vs H Q _ => ∃ (d : Addr) (bs : List Nat) (os : List Od) (b j n : Nat) (o : Od), vs = [.ref d, .str (S [b]), .int n] /\ OrdAt H d bs os /\ bs.Nodup /\ bs.length <= 100 /\ bs[j]? = some b /\ os[j]? = some o /\ n + 1 < o.ps.length /\
  ∀ H', OrdAt H' d bs (os.set j ⟨o.o, swapAt n o.ps⟩) -> SameB o.o H H' -> Q (.bl true) H'
theorem len_do_swap {K : PySem.W.Frag} {vs : List V} {H : Hp} {Q : VK} {E : XK} (h : sp_do_swap K vs H Q E) : vs.length = 3 := by obtain ⟨_, _, _, _, _, _, _, rfl, _⟩ := h; rfl
noncomputable def Left (H : Hp) (Q : VK) (d wl : Addr) (bs : List Nat) (os : List Od) (ws : List (List Nat)) (c : Nat) (w' : List Nat) (f : Nat -> Option Nat) : Prop :=
  ∀ (os' : List Od) (H' : Hp), OrdAt H' d bs os' -> os'.map prs = os.map (fun o => renM c f (prs o)) -> H' wl = some (.lst (txs (ws.set c w'))) -> (∀ o ∈ os', H o.o = none) -> SameX d wl H H' -> Q (.bl true) H'
noncomputable def sp_do_out (_ : PySem.W.Frag) : Sp := fun vs H Q _ => ∃ (d wl : Addr) (bs : List Nat) (os : List Od) (ws : List (List Nat)) (c k : Nat) (w : List Nat) (x : Nat), vs = [.ref wl, .ref d, .int c, .int k] /\ Hold H d wl bs os ws /\ ws[c]? = some w /\ w[k]? = some x /\ w[k + 1]? = some (ctr x) /\
  Left H Q d wl bs os ws c (w.take k ++ w.drop (k + 2)) (outF k)
theorem len_do_out {K : PySem.W.Frag} {vs : List V} {H : Hp} {Q : VK} {E : XK} (h : sp_do_out K vs H Q E) : vs.length = 4 := by obtain ⟨_, _, _, _, _, _, _, _, _, rfl, _⟩ := h; rfl
noncomputable def sp_do_turn (_ : PySem.W.Frag) : Sp := fun vs H Q _ => ∃ (d wl : Addr) (bs : List Nat) (os : List Od) (ws : List (List Nat)) (c : Nat) (w : List Nat), vs = [.ref wl, .ref d, .int c] /\ Hold H d wl bs os ws /\ ws[c]? = some w /\
  Left H Q d wl bs os ws c (w.drop 1 ++ w.take 1) (turnF w.length)
theorem len_do_turn {K : PySem.W.Frag} {vs : List V} {H : Hp} {Q : VK} {E : XK} (h : sp_do_turn K vs H Q E) : vs.length = 3 := by obtain ⟨_, _, _, _, _, _, _, rfl, _⟩ := h; rfl
theorem prv_set (ps : List Pr) (n : Nat) (p : Pr) : (prv ps).set n (V.ref p.t) = prv (ps.set n p) := by unfold prv; rw [List.map_set]
theorem Hold.pl {H : Hp} {d wl : Addr} {bs : List Nat} {os : List Od} {ws : List (List Nat)} (h : Hold H d wl bs os ws) {c : Nat} {w : List Nat} (hw : ws[c]? = some w) {xs : List V} {f : Nat -> Option Nat} (hx : ∀ i, i < w.length -> xs[i]? = some (fV (f i))) :
    ∀ o ∈ os, ∀ p ∈ o.ps, p.c = c -> xs[p.i]? = some (match f p.i with | none => V.non | some j => V.int (j : Nat)) := fun o ho p hp e => by
  obtain ⟨w', h1, h2⟩ := h.pz o ho p hp
  rw [e, hw] at h1
  cases h1
  exact hx _ h2
theorem ixN_nat {n k : Nat} (h : k < n) : ixN n (k : Int) = some k := by
  unfold ixN
  rw [if_pos (by omega)]
  simp [h]
theorem ordK_map (bs : List Nat) (os : List Od) : ordK bs os = (bs.zip (os.map Od.o)).map fun x => (kS [x.1], V.ref x.2) := by
  unfold ordK
  rw [List.zip_map_right, List.map_map]
  rfl
theorem set_same {α : Type} : ∀ {l : List α} {j : Nat} {a : α}, l[j]? = some a -> l.set j a = l
  | [], _, _, _ => rfl
  | x :: l, 0, a, h => by cases h; rfl
  | x :: l, j + 1, a, h => by show x :: l.set j a = x :: l; rw [set_same (by simpa using h)]
theorem OrdAt.mut {H : Hp} {d : Addr} {bs : List Nat} {os : List Od} {j : Nat} {o : Od} {ps' : List Pr} (h : OrdAt H d bs os) (ho : os[j]? = some o) (hp : ∀ p ∈ ps', PrOk H p) (hl : ps'.length <= 100) :
    OrdAt (upd H o.o (.lst (prv ps'))) d bs (os.set j ⟨o.o, ps'⟩) := by
  have hom := List.mem_of_getElem? ho
  have hoO := h.ok o hom
  have em : (os.set j ⟨o.o, ps'⟩).map Od.o = os.map Od.o := by
    rw [List.map_set]
    exact set_same (by rw [List.getElem?_map, ho]; rfl)
  have tU : TSame H (upd H o.o (.lst (prv ps'))) := TSame.updL hoO.tp
  refine ⟨?_, by rw [List.length_set]; exact h.ln, by rw [em]; exact h.nd, fun x hx => ?_⟩
  · rw [upd_ne (Ne.symm (h.ne hom)), h.dk, ordK_map, ordK_map, em]
  · obtain ⟨i, hi, e⟩ := List.mem_iff_getElem.mp hx
    by_cases z : j = i
    · subst z
      rw [List.getElem_set_self] at e
      rw [<- e]
      exact ⟨upd_same, fun p hp' => (hp p hp').ts tU, hl⟩
    · rw [List.getElem_set_ne z] at e
      rw [List.length_set] at hi
      have hx2 : x ∈ os := by rw [<- e]; exact List.getElem_mem hi
      have hne : x.o ≠ o.o := fun y => z (by
        have hj := (List.getElem?_eq_some_iff.mp ho)
        have h1 : (os.map Od.o)[i]'(by rw [List.length_map]; exact hi) = (os.map Od.o)[j]'(by rw [List.length_map]; exact hj.1) := by
          rw [List.getElem_map, List.getElem_map, e, hj.2]; exact y
        have hpw := List.pairwise_iff_getElem.mp h.nd
        rcases Nat.lt_trichotomy i j with g | g | g
        · exact absurd h1 (hpw i j _ _ g)
        · exact g.symm
        · exact absurd h1.symm (hpw j i _ _ g))
      have hxO := h.ok x hx2
      exact ⟨by rw [upd_ne hne]; exact hxO.tp, fun p hp' => (hxO.pr p hp').ts tU, hxO.fw⟩
theorem swap_perm (n : Nat) (l : List Pr) : (swapAt n l).Perm l := by
  unfold swapAt
  cases h0 : l[n]? with
  | none => exact List.Perm.refl _
  | some p => cases h1 : l[n + 1]? with
    | none => exact List.Perm.refl _
    | some q =>
      show ((l.set n q).set (n + 1) p).Perm l
      induction l generalizing n with
      | nil => simp at h0
      | cons x l ih =>
        cases n with
        | zero =>
          cases l with
          | nil => simp at h1
          | cons y l =>
            cases h0
            have e : y = q := by simpa using h1
            subst e
            exact List.Perm.swap _ _ l
        | succ n => exact (ih n (by simpa using h0) (by simpa using h1)).cons x
theorem OrdAt.updW {H : Hp} {d wl : Addr} {bs : List Nat} {os : List Od} {ys zs : List V} (h : OrdAt H d bs os) (hne : ∀ o ∈ os, o.o ≠ wl) (hw : H wl = some (.lst ys)) : OrdAt (upd H wl (.lst zs)) d bs os := by
  have tU : TSame H (upd H wl (.lst zs)) := TSame.updL hw
  exact ⟨by rw [upd_ne (fun z => by rw [<- z, h.dk] at hw; cases hw)]; exact h.dk, h.ln, h.nd, fun o ho => ⟨by rw [upd_ne (hne o ho)]; exact (h.ok o ho).tp, fun p hp => ((h.ok o ho).pr p hp).ts tU, (h.ok o ho).fw⟩⟩
theorem txs_set (ws : List (List Nat)) (c : Nat) (w : List Nat) : (txs ws).set c (.str (S w)) = txs (ws.set c w) := by unfold txs; rw [List.map_set]
theorem cut_one (w : List Nat) : cut w (some 1) none = w.drop 1 := by have := cut_from w 1; rwa [show ((1 : Nat) : Int) = 1 from rfl] at this
theorem cut_one' (w : List Nat) : cut w none (some 1) = w.take 1 := by have := cut_to w 1; rwa [show ((1 : Nat) : Int) = 1 from rfl] at this
theorem rng_get {n i : Nat} {a : Int} (h : i < n) : ((List.range n).map fun (k : Nat) => V.int (a + (k : Int)))[i]? = some (V.int (a + (i : Int))) := by
  rw [List.getElem?_map, List.getElem?_range h]
  rfl
theorem turn_at {n i : Nat} (h : i < n) : ([V.int ((n : Int) - 1)] ++ (List.range ((n : Int) - 1).toNat).map fun (k : Nat) => V.int (0 + (k : Int)))[i]? = some (fV (turnF n i)) := by
  unfold turnF fV
  by_cases z : i = 0
  · subst z
    rw [if_pos rfl]
    show some (V.int ((n : Int) - 1)) = some (V.int ((n - 1 : Nat) : Int))
    congr 2
    omega
  · rw [if_neg z, List.getElem?_append_right (by simp; omega), List.length_singleton, rng_get (by omega)]
    congr 2
    omega
theorem left_end {H H3 : Hp} {Q : VK} {d wl : Addr} {bs : List Nat} {os : List Od} {ws : List (List Nat)} {c : Nat} {w' : List Nat} {f : Nat -> Option Nat} (hH : Hold H d wl bs os ws) (q : Left H Q d wl bs os ws c w' f) (s : Same (upd H wl (.lst (txs (ws.set c w')))) H3) :
    ∀ (os' : List Od) (H' : Hp), OrdAt H' d bs os' -> os'.map prs = os.map (fun o => renM c f (prs o)) -> (∀ o ∈ os', H3 o.o = none) -> SameB d H3 H' -> Q (.bl true) H' := fun os' H' h1 h2 h3 h4 => by
  have hwd : wl ≠ d := fun z => by have := hH.wd; rw [z, hH.od.dk] at this; cases this
  refine q os' H' h1 h2 (h4 _ _ (s _ _ upd_same) hwd) (fun o ho => ?_) fun a u ea za zb => ?_
  · cases e : H o.o with
    | none => rfl
    | some u =>
      exfalso
      have hn := h3 o ho
      by_cases z : o.o = wl
      · rw [z, s _ _ upd_same] at hn; cases hn
      · rw [s _ _ (show upd H wl (.lst (txs (ws.set c w'))) o.o = some u by rw [upd_ne z]; exact e)] at hn; cases hn
  · exact h4 _ _ (s _ _ (by rw [upd_ne zb]; exact ea)) za
theorem Hold.pb {H : Hp} {d wl : Addr} {bs : List Nat} {os : List Od} {ws : List (List Nat)} (h : Hold H d wl bs os ws) {c : Nat} {w : List Nat} (hw : ws[c]? = some w) {f : Nat -> Option Nat} (hf : ∀ i j, i < w.length -> f i = some j -> j < 1000) :
    ∀ o ∈ os, ∀ p ∈ o.ps, p.c = c -> ∀ j, f p.i = some j -> j < 1000 := fun o ho p hp e j hj => by
  obtain ⟨w', h1, h2⟩ := h.pz o ho p hp
  rw [e, hw] at h1
  cases h1
  exact hf _ _ h2 hj
theorem cut_k (w : List Nat) (k : Nat) : cut w none (some (k : Int)) = w.take k := cut_to w k
theorem out_at {n k i : Nat} (hk : k + 1 < n) (h : i < n) : (((List.range ((k : Int)).toNat).map fun (j : Nat) => V.int (0 + (j : Int))) ++ [V.non, V.non] ++ (List.range ((n : Int) - 2 - (k : Int)).toNat).map fun (j : Nat) => V.int ((k : Int) + (j : Int)))[i]? = some (fV (outF k i)) := by
  have e1 : ((k : Int)).toNat = k := by omega
  have e2 : ((n : Int) - 2 - (k : Int)).toNat = n - 2 - k := by omega
  rw [e1, e2]
  unfold outF fV
  by_cases z : i < k
  · rw [if_pos z, List.getElem?_append_left (by simp; omega), List.getElem?_append_left (by simpa using z), rng_get z]
    congr 2
    omega
  · rw [if_neg z]
    by_cases y : i < k + 2
    · rw [if_pos y, List.getElem?_append_left (by simp; omega), List.getElem?_append_right (by simp; omega), List.length_map, List.length_range]
      rcases (by omega : i - k = 0 \/ i - k = 1) with g | g <;> rw [g] <;> rfl
    · have el : (((List.range k).map fun (j : Nat) => V.int (0 + (j : Int))) ++ [V.non, V.non]).length = k + 2 := by simp
      rw [if_neg y, List.getElem?_append_right (by omega), el, rng_get (by omega)]
      congr 2
      omega
theorem in_at {n k i : Nat} (hk : k <= n) (h : i < n) : (((List.range ((k : Int)).toNat).map fun (j : Nat) => V.int (0 + (j : Int))) ++ (List.range ((n : Int) + 2 - ((k : Int) + 2)).toNat).map fun (j : Nat) => V.int ((k : Int) + 2 + (j : Int)))[i]? = some (fV (inF k i)) := by
  have e1 : ((k : Int)).toNat = k := by omega
  have e2 : ((n : Int) + 2 - ((k : Int) + 2)).toNat = n - k := by omega
  rw [e1, e2]
  unfold inF fV
  by_cases z : i < k
  · rw [if_pos z, List.getElem?_append_left (by simpa using z), rng_get z]
    congr 2
    omega
  · rw [if_neg z, List.getElem?_append_right (by simp; omega), List.length_map, List.length_range, rng_get (by omega)]
    congr 2
    omega
theorem left_facts {H H3 H' : Hp} {d wl : Addr} {bs : List Nat} {os os' : List Od} {ws : List (List Nat)} {c : Nat} {w' : List Nat} (hH : Hold H d wl bs os ws) (s : Same (upd H wl (.lst (txs (ws.set c w')))) H3) (h3 : ∀ o ∈ os', H3 o.o = none) (h4 : SameB d H3 H') :
    H' wl = some (.lst (txs (ws.set c w'))) /\ (∀ o ∈ os', H o.o = none) /\ SameX d wl H H' := by
  have hwd : wl ≠ d := fun z => by have := hH.wd; rw [z, hH.od.dk] at this; cases this
  refine ⟨h4 _ _ (s _ _ upd_same) hwd, fun o ho => ?_, fun a u ea za zb => h4 _ _ (s _ _ (by rw [upd_ne zb]; exact ea)) za⟩
  cases e : H o.o with
  | none => rfl
  | some u =>
    exfalso
    have hn := h3 o ho
    by_cases z : o.o = wl
    · rw [z, s _ _ upd_same] at hn; cases hn
    · rw [s _ _ (show upd H wl (.lst (txs (ws.set c w'))) o.o = some u by rw [upd_ne z]; exact e)] at hn; cases hn
noncomputable def put2 (n : Nat) (p q : Nat × Nat) (l : List (Nat × Nat)) : List (Nat × Nat) := l.take n ++ p :: q :: l.drop n
noncomputable def sp_do_in (_ : PySem.W.Frag) : Sp := fun vs H Q _ => ∃ (d wl : Addr) (bs : List Nat) (os : List Od) (ws : List (List Nat)) (c k n j : Nat) (w : List Nat) (x : Nat) (o : Od), vs = [.ref wl, .ref d, .int c, .int k, .str (S [x]), .int n] /\ Hold H d wl bs os ws /\ ws[c]? = some w /\ k <= w.length /\ Lt x /\ bs[j]? = some (PyProof.Rows.lo1 x) /\ os[j]? = some o /\ n <= o.ps.length /\ o.ps.length <= 90 /\
  ∀ (os' : List Od) (H' : Hp), OrdAt H' d bs os' -> os'.map prs = (os.map (fun o => renM c (inF k) (prs o))).set j (put2 n (c, k) (c, k + 1) (renM c (inF k) (prs o))) -> H' wl = some (.lst (txs (ws.set c (w.take k ++ [x] ++ [ctr x] ++ w.drop k)))) -> (∀ o ∈ os', H o.o = none) -> SameX d wl H H' -> Q (.bl true) H'
theorem len_do_in {K : PySem.W.Frag} {vs : List V} {H : Hp} {Q : VK} {E : XK} (h : sp_do_in K vs H Q E) : vs.length = 6 := by obtain ⟨_, _, _, _, _, _, _, _, _, _, _, _, rfl, _⟩ := h; rfl
theorem renM_len_in (c k : Nat) : ∀ l : List (Nat × Nat), (renM c (inF k) l).length = l.length
  | [] => rfl
  | p :: l => by
    have ih := renM_len_in c k l
    unfold renM at ih ⊢
    have e : ∃ q, ren1 c (inF k) p = some q := by
      unfold ren1 inF
      by_cases z : p.1 = c
      · rw [if_pos z]; split <;> exact ⟨_, rfl⟩
      · rw [if_neg z]; exact ⟨_, rfl⟩
    obtain ⟨q, hq⟩ := e
    rw [List.filterMap_cons, hq]
    simp [ih]
theorem prv_ins (ps : List Pr) (n : Nat) (p : Pr) : (prv ps).take n ++ V.ref p.t :: (prv ps).drop n = prv (ps.take n ++ p :: ps.drop n) := by unfold prv; rw [List.map_append, List.map_cons, List.map_take, List.map_drop]
inductive Deed where
  | swap (b n : Nat) | out (c k : Nat) | turn (c : Nat) | ins (c k x n : Nat)
noncomputable def wSwap : List Nat := [115, 119, 97, 112]
noncomputable def wOut : List Nat := [111, 117, 116]
noncomputable def wTurn : List Nat := [116, 117, 114, 110]
noncomputable def wIn : List Nat := [105, 110]
noncomputable def DeedAt (H : Hp) (a : Addr) : Deed -> Prop
  | .swap b n => H a = some (.tup [.str (S wSwap), .str (S [b]), .int n])
  | .out c k => H a = some (.tup [.str (S wOut), .int c, .int k])
  | .turn c => H a = some (.tup [.str (S wTurn), .int c])
  | .ins c k x n => H a = some (.tup [.str (S wIn), .int c, .int k, .str (S [x]), .int n])
theorem DeedAt.ts {H H' : Hp} {a : Addr} {e : Deed} (h : DeedAt H a e) (s : TSame H H') : DeedAt H' a e := by cases e <;> exact s _ _ h
noncomputable def swapP (n : Nat) (l : List (Nat × Nat)) : List (Nat × Nat) := match l[n]?, l[n + 1]? with | some p, some q => (l.set n q).set (n + 1) p | _, _ => l
theorem swap_prs (n : Nat) (l : List Pr) : (swapAt n l).map Pr.pair = swapP n (l.map Pr.pair) := by
  unfold swapAt swapP
  rw [List.getElem?_map, List.getElem?_map]
  cases l[n]? <;> cases l[n + 1]? <;> simp [List.map_set]
noncomputable abbrev Ords := List (List (Nat × Nat))
noncomputable def dW (ws : List (List Nat)) : Deed -> List (List Nat)
  | .swap _ _ => ws
  | .out c k => ws.set c ((ws.getD c []).take k ++ (ws.getD c []).drop (k + 2))
  | .turn c => ws.set c ((ws.getD c []).drop 1 ++ (ws.getD c []).take 1)
  | .ins c k x _ => ws.set c ((ws.getD c []).take k ++ [x] ++ [ctr x] ++ (ws.getD c []).drop k)
noncomputable def dO (bs : List Nat) (ws : List (List Nat)) (L : Ords) : Deed -> Ords
  | .swap b n => L.set (bs.idxOf b) (swapP n (L.getD (bs.idxOf b) []))
  | .out c k => L.map (renM c (outF k))
  | .turn c => L.map (renM c (turnF (ws.getD c []).length))
  | .ins c k x n => (L.map (renM c (inF k))).set (bs.idxOf (PyProof.Rows.lo1 x)) (put2 n (c, k) (c, k + 1) (renM c (inF k) (L.getD (bs.idxOf (PyProof.Rows.lo1 x)) [])))
noncomputable def Dok (y bs : List Nat) (ws : List (List Nat)) (L : Ords) : Deed -> Prop
  | .swap b n => b ∈ bs /\ n + 1 < (L.getD (bs.idxOf b) []).length
  | .out c k => c < ws.length /\ ∃ x, (ws.getD c [])[k]? = some x /\ (ws.getD c [])[k + 1]? = some (ctr x)
  | .turn c => c < ws.length
  | .ins c k x n => c < ws.length /\ k <= (ws.getD c []).length /\ (ws.getD c []).length <= 10 /\ x ∈ y /\ n <= (L.getD (bs.idxOf (PyProof.Rows.lo1 x)) []).length
noncomputable def sp_do_deed (_ : PySem.W.Frag) : Sp := fun vs H Q _ => ∃ (y : List Nat) (d wl a : Addr) (os : List Od) (ws : List (List Nat)) (e : Deed), vs = [.str (S y), .ref wl, .ref d, .ref a] /\ Yd y /\ y.length <= 8 /\ Hold H d wl (bsOf y) os ws /\ (∀ o ∈ os, o.ps.length <= 90) /\ DeedAt H a e /\ Dok y (bsOf y) ws (os.map prs) e /\
  ∀ (os' : List Od) (H' : Hp), OrdAt H' d (bsOf y) os' -> os'.map prs = dO (bsOf y) ws (os.map prs) e -> H' wl = some (.lst (txs (dW ws e))) -> (∀ o ∈ os', H o.o = none \/ o.o ∈ os.map Od.o) -> (∀ x u, H x = some u -> x ≠ d -> x ≠ wl -> x ∉ os.map Od.o -> H' x = some u) -> Q (.bl true) H'
theorem len_do_deed {K : PySem.W.Frag} {vs : List V} {H : Hp} {Q : VK} {E : XK} (h : sp_do_deed K vs H Q E) : vs.length = 4 := by obtain ⟨_, _, _, _, _, _, _, rfl, _⟩ := h; rfl
theorem getD_of {α : Type} {l : List α} {i : Nat} {a x : α} (h : l[i]? = some a) : l.getD i x = a := by rw [List.getD_eq_getElem?_getD, h]; rfl
theorem Hold.same {H H' : Hp} {d wl : Addr} {bs : List Nat} {os : List Od} {ws : List (List Nat)} (h : Hold H d wl bs os ws) (s : Same H H') : Hold H' d wl bs os ws := ⟨h.od.same s, s _ _ h.wd, h.nd, h.bl, h.ne, h.pz, h.wz, h.wo⟩
theorem nodup_fm2 {α : Type} {f : Nat -> List α} (g : α -> Nat) : ∀ {l : List Nat}, l.Nodup -> (∀ e ∈ l, (f e).Nodup) -> (∀ e ∈ l, ∀ p ∈ f e, g p = e) -> (l.flatMap f).Nodup
  | [], _, _, _ => List.nodup_nil
  | a :: l, hn, h1, h2 => by
    obtain ⟨n1, n2⟩ := List.nodup_cons.mp hn
    rw [List.flatMap_cons, List.nodup_append]
    refine ⟨h1 a List.mem_cons_self, nodup_fm2 g n2 (fun e he => h1 e (List.mem_cons_of_mem _ he)) (fun e he => h2 e (List.mem_cons_of_mem _ he)), fun x hx y hy z => ?_⟩
    subst z
    obtain ⟨e, he, hxe⟩ := List.mem_flatMap.mp hy
    have g1 := h2 a List.mem_cons_self x hx
    have g2 := h2 e (List.mem_cons_of_mem _ he) x hxe
    exact n1 (by rw [<- g1, g2]; exact he)
theorem strAll_nd2 (band : Nat) (ws : List (List Nat)) (n : Nat) : (strAll band ws n).Nodup :=
  nodup_fm2 Prod.fst List.nodup_range (fun c _ => by
    unfold strUp
    show (List.map _ _).Pairwise (· ≠ ·)
    rw [List.pairwise_map]
    exact (List.nodup_range.filter _).imp fun {i j} h z => h (by cases z; rfl)) fun c _ p hp => by
    unfold strUp at hp
    obtain ⟨i, _, rfl⟩ := List.mem_map.mp hp
    rfl
theorem mem_str {band c i n : Nat} {ws : List (List Nat)} : (c, i) ∈ strAll band ws n ↔ c < n /\ i < (ws.getD c []).length /\ onB band ((ws.getD c []).getD i 0) = true := by
  constructor
  · intro h
    obtain ⟨c', hc, h2⟩ := List.mem_flatMap.mp h
    unfold strUp at h2
    obtain ⟨i', hi, e⟩ := List.mem_map.mp h2
    obtain ⟨hi1, hi2⟩ := List.mem_filter.mp hi
    cases e
    exact ⟨List.mem_range.mp hc, List.mem_range.mp hi1, hi2⟩
  · rintro ⟨h1, h2, h3⟩
    exact List.mem_flatMap.mpr ⟨c, List.mem_range.mpr h1, List.mem_map.mpr ⟨i, List.mem_filter.mpr ⟨List.mem_range.mpr h2, h3⟩, rfl⟩⟩
theorem getD_set {ws : List (List Nat)} {c d : Nat} {w' : List Nat} (h : c < ws.length) : (ws.set c w').getD d [] = if d = c then w' else ws.getD d [] := by
  rw [List.getD_eq_getElem?_getD, List.getElem?_set]
  by_cases z : c = d
  · subst z; rw [if_pos rfl, if_pos rfl, if_pos h]; rfl
  · rw [if_neg z, if_neg fun y => z y.symm, List.getD_eq_getElem?_getD]
theorem ren_perm {ws : List (List Nat)} {b c : Nat} {w' X : List Nat} {f : Nat -> Option Nat} (hc : c < ws.length) (hX : X.Nodup)
    (inj : ∀ i i' j, i < (ws.getD c []).length -> i' < (ws.getD c []).length -> f i = some j -> f i' = some j -> i = i')
    (hj : ∀ j, (j < w'.length /\ onB b (w'.getD j 0) = true) ↔ ((∃ i, i < (ws.getD c []).length /\ onB b ((ws.getD c []).getD i 0) = true /\ f i = some j) \/ j ∈ X))
    (hx : ∀ i j, i < (ws.getD c []).length -> f i = some j -> j ∉ X) :
    (strAll b (ws.set c w') (ws.set c w').length).Perm (X.map (fun j => (c, j)) ++ renM c f (strAll b ws ws.length)) := by
  have ndR : (renM c f (strAll b ws ws.length)).Nodup := by
    unfold renM
    show List.Pairwise (· ≠ ·) _
    rw [List.pairwise_filterMap]
    refine List.Pairwise.imp_of_mem ?_ (strAll_nd2 b ws ws.length)
    rintro ⟨a1, a2⟩ ⟨b1, b2⟩ ma mb hne q hq q' hq' e
    subst e
    obtain ⟨ma1, ma2, _⟩ := mem_str.mp ma
    obtain ⟨mb1, mb2, _⟩ := mem_str.mp mb
    unfold ren1 at hq hq'
    by_cases za : a1 = c <;> by_cases zb : b1 = c
    · subst za
      subst zb
      rw [if_pos rfl] at hq hq'
      cases e1 : f a2 with
      | none => rw [e1] at hq; cases hq
      | some j =>
        cases e2 : f b2 with
        | none => rw [e2] at hq'; cases hq'
        | some j' =>
          rw [e1] at hq
          rw [e2] at hq'
          cases hq
          have : j' = j := by injection hq' with z; exact congrArg Prod.snd z
          subst this
          exact hne (by rw [inj a2 b2 j' ma2 mb2 e1 e2])
    · rw [if_pos za] at hq
      rw [if_neg zb] at hq'
      cases hq'
      cases e1 : f a2 with
      | none => rw [e1] at hq; cases hq
      | some j => rw [e1] at hq; injection hq with z; exact zb (congrArg Prod.fst z).symm
    · rw [if_neg za] at hq
      rw [if_pos zb] at hq'
      cases hq
      cases e1 : f b2 with
      | none => rw [e1] at hq'; cases hq'
      | some j => rw [e1] at hq'; injection hq' with z; exact za (congrArg Prod.fst z).symm
    · rw [if_neg za] at hq
      rw [if_neg zb] at hq'
      cases hq
      cases hq'
      exact hne rfl
  have memR : ∀ d j, (d, j) ∈ renM c f (strAll b ws ws.length) ↔ (if d = c then ∃ i, i < (ws.getD c []).length /\ onB b ((ws.getD c []).getD i 0) = true /\ f i = some j else (d, j) ∈ strAll b ws ws.length) := fun d j => by
    unfold renM
    rw [List.mem_filterMap]
    by_cases z : d = c
    · subst z
      rw [if_pos rfl]
      constructor
      · rintro ⟨⟨d', i⟩, hm, he⟩
        unfold ren1 at he
        by_cases y : d' = d
        · subst y
          rw [if_pos rfl] at he
          cases e1 : f i with
          | none => rw [e1] at he; cases he
          | some j' =>
            rw [e1] at he
            have : j' = j := by injection he with z; exact congrArg Prod.snd z
            subst this
            obtain ⟨_, m2, m3⟩ := mem_str.mp hm
            exact ⟨i, m2, m3, e1⟩
        · rw [if_neg y] at he
          exact absurd (congrArg Prod.fst (Option.some.inj he)) y
      · rintro ⟨i, h1, h2, h3⟩
        exact ⟨(d, i), mem_str.mpr ⟨hc, h1, h2⟩, by unfold ren1; rw [if_pos rfl, h3]; rfl⟩
    · rw [if_neg z]
      constructor
      · rintro ⟨⟨d', i⟩, hm, he⟩
        unfold ren1 at he
        by_cases y : d' = c
        · rw [if_pos y] at he
          cases e1 : f i with
          | none => rw [e1] at he; cases he
          | some j' => rw [e1] at he; injection he with y'; exact absurd (congrArg Prod.fst y').symm z
        · rw [if_neg y] at he
          cases he
          exact hm
      · intro hm
        exact ⟨(d, j), hm, if_neg z⟩
  refine (List.perm_ext_iff_of_nodup (strAll_nd2 _ _ _) (List.nodup_append.mpr ⟨?_, ndR, ?_⟩)).mpr fun p => ?_
  · show (List.map _ _).Pairwise (· ≠ ·)
    rw [List.pairwise_map]
    exact hX.imp fun {i j} h z => h (by cases z; rfl)
  · rintro p hp q hq rfl
    obtain ⟨j, hj1, rfl⟩ := List.mem_map.mp hp
    rw [memR, if_pos rfl] at hq
    obtain ⟨i, h1, _, h3⟩ := hq
    exact hx i j h1 h3 hj1
  · obtain ⟨d, j⟩ := p
    rw [mem_str, List.length_set, getD_set hc, List.mem_append, memR]
    by_cases z : d = c
    · subst z
      rw [if_pos rfl, if_pos rfl]
      constructor
      · rintro ⟨_, h1, h2⟩
        rcases (hj j).mp ⟨h1, h2⟩ with g | g
        · exact .inr g
        · exact .inl (List.mem_map.mpr ⟨j, g, rfl⟩)
      · rintro (g | g)
        · obtain ⟨j', g1, g2⟩ := List.mem_map.mp g
          have : j' = j := congrArg Prod.snd g2
          subst this
          exact ⟨hc, (hj j').mpr (.inr g1)⟩
        · exact ⟨hc, (hj j).mpr (.inl g)⟩
    · rw [if_neg z, if_neg z, mem_str]
      constructor
      · exact fun h => .inr h
      · rintro (g | g)
        · obtain ⟨j', _, g2⟩ := List.mem_map.mp g
          exact absurd (congrArg Prod.fst g2).symm z
        · exact g
noncomputable def LOk (y : List Nat) (ws : List (List Nat)) (L : Ords) : Prop := L.length = (bsOf y).length /\ ∀ (j : Nat) (l : List (Nat × Nat)) (b : Nat), L[j]? = some l -> (bsOf y)[j]? = some b -> l.Perm (strAll b ws ws.length)
structure Good (y : List Nat) (ws : List (List Nat)) (L : Ords) : Prop where
  wk : WsOk y ws
  lk : LOk y ws L
theorem getD_out (w : List Nat) (k j : Nat) (hk : k + 1 < w.length) : (w.take k ++ w.drop (k + 2)).getD j 0 = if j < k then w.getD j 0 else w.getD (j + 2) 0 := by
  rw [List.getD_eq_getElem?_getD]
  by_cases z : j < k
  · rw [if_pos z, List.getElem?_append_left (by rw [List.length_take]; omega), List.getElem?_take, if_pos z, List.getD_eq_getElem?_getD]
  · rw [if_neg z, List.getElem?_append_right (by rw [List.length_take]; omega), List.length_take, List.getElem?_drop, List.getD_eq_getElem?_getD, show k + 2 + (j - min k w.length) = j + 2 by omega]
theorem getD_turn (w : List Nat) (j : Nat) (hj : j < w.length) : (w.drop 1 ++ w.take 1).getD j 0 = if j + 1 < w.length then w.getD (j + 1) 0 else w.getD 0 0 := by
  rw [List.getD_eq_getElem?_getD]
  by_cases z : j + 1 < w.length
  · rw [if_pos z, List.getElem?_append_left (by rw [List.length_drop]; omega), List.getElem?_drop, List.getD_eq_getElem?_getD, show 1 + j = j + 1 by omega]
  · rw [if_neg z, List.getElem?_append_right (by rw [List.length_drop]; omega), List.length_drop, List.getElem?_take, if_pos (by omega), List.getD_eq_getElem?_getD, show j - (w.length - 1) = 0 by omega]
theorem getD_ins (w : List Nat) (k x j : Nat) (hk : k <= w.length) : (w.take k ++ [x] ++ [ctr x] ++ w.drop k).getD j 0 = if j < k then w.getD j 0 else if j = k then x else if j = k + 1 then ctr x else w.getD (j - 2) 0 := by
  have el : (w.take k).length = k := by rw [List.length_take]; omega
  rw [List.getD_eq_getElem?_getD]
  by_cases z : j < k
  · rw [if_pos z, List.getElem?_append_left (by simp; omega), List.getElem?_append_left (by simp; omega), List.getElem?_append_left (by omega), List.getElem?_take, if_pos z, List.getD_eq_getElem?_getD]
  · rw [if_neg z]
    by_cases z1 : j = k
    · rw [if_pos z1, List.getElem?_append_left (by simp; omega), List.getElem?_append_left (by simp; omega), List.getElem?_append_right (by omega), el, z1, Nat.sub_self]; rfl
    · rw [if_neg z1]
      by_cases z2 : j = k + 1
      · have e2 : (w.take k ++ [x]).length = k + 1 := by rw [List.length_append, el]; rfl
        rw [if_pos z2, List.getElem?_append_left (by simp; omega), List.getElem?_append_right (by omega), e2, z2, Nat.sub_self]; rfl
      · have e3 : (w.take k ++ [x] ++ [ctr x]).length = k + 2 := by rw [List.length_append, List.length_append, el]; rfl
        rw [if_neg z2, List.getElem?_append_right (by omega), e3, List.getElem?_drop, List.getD_eq_getElem?_getD, show k + (j - (k + 2)) = j - 2 by omega]
theorem onB_ctr {b x : Nat} (hb : Lt b) (hx : Lt x) : onB b (ctr x) = onB b x := by
  unfold onB
  have e1 : decide (ctr x = b) = decide (x = ctr b) := decide_eq_decide.mpr ⟨fun z => by rw [<- z, ctr_ctr hx], fun z => by rw [z, ctr_ctr hb]⟩
  have e2 : decide (ctr x = ctr b) = decide (x = b) := decide_eq_decide.mpr ⟨fun z => by rw [<- ctr_ctr hx, z, ctr_ctr hb], fun z => by rw [z]⟩
  rw [e1, e2, Bool.or_comm]
theorem swapP_perm (n : Nat) (l : List (Nat × Nat)) : (swapP n l).Perm l := by
  unfold swapP
  cases h0 : l[n]? with
  | none => exact List.Perm.refl _
  | some p => cases h1 : l[n + 1]? with
    | none => exact List.Perm.refl _
    | some q =>
      show ((l.set n q).set (n + 1) p).Perm l
      induction l generalizing n with
      | nil => simp at h0
      | cons x l ih =>
        cases n with
        | zero =>
          cases l with
          | nil => simp at h1
          | cons y l =>
            cases h0
            have e : y = q := by simpa using h1
            subst e
            exact List.Perm.swap _ _ l
        | succ n => exact (ih n (by simpa using h0) (by simpa using h1)).cons x
theorem put2_perm (n : Nat) (p q : Nat × Nat) (l : List (Nat × Nat)) : (put2 n p q l).Perm (p :: q :: l) := by
  unfold put2
  have h1 := List.perm_middle (l₁ := l.take n) (a := p) (l₂ := q :: l.drop n)
  have h2 := List.perm_middle (l₁ := l.take n) (a := q) (l₂ := l.drop n)
  rw [List.take_append_drop] at h2
  exact h1.trans (h2.cons p)
theorem set_mem {α : Type} {l : List α} {j : Nat} {a x : α} {i : Nat} (h : (l.set j a)[i]? = some x) : (i = j /\ x = a) \/ (i ≠ j /\ l[i]? = some x) := by
  rw [List.getElem?_set] at h
  by_cases z : j = i
  · rw [if_pos z] at h
    split at h
    · exact .inl ⟨z.symm, (Option.some.inj h).symm⟩
    · cases h
  · rw [if_neg z] at h
    exact .inr ⟨fun y => z y.symm, h⟩
theorem wsOk_set {y : List Nat} {ws : List (List Nat)} {c : Nat} {w' : List Nat} (h : WsOk y ws) (hw : (∀ x ∈ w', x ∈ y) /\ w'.length <= 12) : WsOk y (ws.set c w') := ⟨by rw [List.length_set]; exact h.few, fun w hm => (List.mem_or_eq_of_mem_set hm).elim (h.all w) fun e => by rw [e]; exact hw⟩
theorem getD_mem {ws : List (List Nat)} {c : Nat} (h : c < ws.length) : ws.getD c [] ∈ ws := by rw [List.getD_eq_getElem?_getD, List.getElem?_eq_getElem h]; exact List.getElem_mem h
theorem idxOf_nd {l : List Nat} (h : l.Nodup) {n p : Nat} (e : l[n]? = some p) : l.idxOf p = n := by
  obtain ⟨hn, e2⟩ := List.getElem?_eq_some_iff.mp e
  have hi := List.idxOf_lt_length_of_mem (List.mem_of_getElem? e)
  have hp := List.pairwise_iff_getElem.mp h
  have e3 : l[l.idxOf p] = l[n] := (List.getElem_idxOf hi).trans e2.symm
  rcases Nat.lt_trichotomy (l.idxOf p) n with z | z | z
  · exact absurd e3 (hp _ _ hi hn z)
  · exact z
  · exact absurd e3.symm (hp _ _ hn hi z)
theorem Good.step {y : List Nat} {ws : List (List Nat)} {L : Ords} {e : Deed} (hy : Yd y) (g : Good y ws L) (hok : Dok y (bsOf y) ws L e) : Good y (dW ws e) (dO (bsOf y) ws L e) := by
  obtain ⟨gw, gl, go⟩ := g
  have bl : ∀ b ∈ bsOf y, b ∈ smalls := fun b hb => by
    have := List.mem_filter.mp ((bsOf_perm y).mem_iff.mp hb)
    have h2 := this.2
    rw [isLow_iff (hy.lt b this.1)] at h2
    exact of_decide_eq_true h2
  cases e with
  | swap b n =>
    refine ⟨gw, by show (L.set _ _).length = _; rw [List.length_set]; exact gl, fun j l b' hl hb' => ?_⟩
    rcases set_mem (show (L.set _ (swapP n (L.getD ((bsOf y).idxOf b) [])))[j]? = some l from hl) with ⟨e1, e2⟩ | ⟨_, e2⟩
    · subst e1
      have hj : (bsOf y).idxOf b < L.length := by rw [gl]; exact (List.getElem?_eq_some_iff.mp hb').1
      have hg : L[(bsOf y).idxOf b]? = some L[(bsOf y).idxOf b] := List.getElem?_eq_getElem hj
      rw [e2, getD_of hg]
      exact (swapP_perm n _).trans (go _ _ _ hg hb')
    · exact go j l b' e2 hb'
  | out c k =>
    obtain ⟨hc, x, h0, h1⟩ := hok
    have hk : k + 1 < (ws.getD c []).length := (List.getElem?_eq_some_iff.mp h1).1
    obtain ⟨wy, wz⟩ := gw.all _ (getD_mem hc)
    refine ⟨wsOk_set gw ⟨fun z hz => ?_, by rw [List.length_append, List.length_take, List.length_drop]; omega⟩, by show (L.map _).length = _; rw [List.length_map]; exact gl, fun j l b hl hb => ?_⟩
    · rcases List.mem_append.mp hz with q | q
      · exact wy z (List.mem_of_mem_take q)
      · exact wy z (List.mem_of_mem_drop q)
    · obtain ⟨l0, hl0, rfl⟩ := Option.map_eq_some_iff.mp (by rw [<- List.getElem?_map]; exact hl)
      have hp := go j l0 b hl0 hb
      refine (hp.filterMap (ren1 c (outF k))).trans ((ren_perm (X := []) hc List.nodup_nil ?_ ?_ ?_).symm)
      · intro i i' j' _ _ e1 e2
        unfold outF at e1 e2
        split at e1
        · have a1 := Option.some.inj e1
          split at e2
          · have a2 := Option.some.inj e2; omega
          · split at e2
            · cases e2
            · have a2 := Option.some.inj e2; omega
        · split at e1
          · cases e1
          · have a1 := Option.some.inj e1
            split at e2
            · have a2 := Option.some.inj e2; omega
            · split at e2
              · cases e2
              · have a2 := Option.some.inj e2; omega
      · intro j'
        rw [getD_out _ _ _ hk]
        have hlen : ((ws.getD c []).take k ++ (ws.getD c []).drop (k + 2)).length = (ws.getD c []).length - 2 := by rw [List.length_append, List.length_take, List.length_drop]; omega
        rw [hlen]
        constructor
        · rintro ⟨q1, q2⟩
          refine .inl ?_
          by_cases z : j' < k
          · rw [if_pos z] at q2; exact ⟨j', by omega, q2, by unfold outF; rw [if_pos z]⟩
          · rw [if_neg z] at q2; exact ⟨j' + 2, by omega, q2, by unfold outF; rw [if_neg (by omega), if_neg (by omega)]; rfl⟩
        · rintro (⟨i, q1, q2, q3⟩ | q)
          · unfold outF at q3
            split at q3
            · rename_i z; cases q3; rw [if_pos z]; exact ⟨by omega, q2⟩
            · split at q3
              · cases q3
              · cases q3
                rw [if_neg (by omega), show i - 2 + 2 = i by omega]
                exact ⟨by omega, q2⟩
          · cases q
      · intro i j' _ _ q; cases q
  | turn c =>
    have hc : c < ws.length := hok
    obtain ⟨wy, wz⟩ := gw.all _ (getD_mem hc)
    refine ⟨wsOk_set gw ⟨fun z hz => ?_, by rw [List.length_append, List.length_take, List.length_drop]; omega⟩, by show (L.map _).length = _; rw [List.length_map]; exact gl, fun j l b hl hb => ?_⟩
    · rcases List.mem_append.mp hz with q | q
      · exact wy z (List.mem_of_mem_drop q)
      · exact wy z (List.mem_of_mem_take q)
    · obtain ⟨l0, hl0, rfl⟩ := Option.map_eq_some_iff.mp (by rw [<- List.getElem?_map]; exact hl)
      have hp := go j l0 b hl0 hb
      refine (hp.filterMap (ren1 c (turnF (ws.getD c []).length))).trans ((ren_perm (X := []) hc List.nodup_nil ?_ ?_ ?_).symm)
      · intro i i' j' h1 h2 e1 e2
        unfold turnF at e1 e2
        split at e1 <;> split at e2 <;> (have a1 := Option.some.inj e1; have a2 := Option.some.inj e2; omega)
      · intro j'
        have hlen : ((ws.getD c []).drop 1 ++ (ws.getD c []).take 1).length = (ws.getD c []).length := by rw [List.length_append, List.length_take, List.length_drop]; omega
        rw [hlen]
        constructor
        · rintro ⟨q1, q2⟩
          rw [getD_turn _ _ q1] at q2
          refine .inl ?_
          by_cases z : j' + 1 < (ws.getD c []).length
          · rw [if_pos z] at q2; exact ⟨j' + 1, z, q2, by unfold turnF; rw [if_neg (by omega)]; rfl⟩
          · rw [if_neg z] at q2; exact ⟨0, by omega, q2, by unfold turnF; rw [if_pos rfl]; congr 1; omega⟩
        · rintro (⟨i, q1, q2, q3⟩ | q)
          · unfold turnF at q3
            split at q3
            · rename_i z
              cases q3
              refine ⟨by omega, ?_⟩
              rw [getD_turn _ _ (by omega), if_neg (by omega)]
              rw [z] at q2
              exact q2
            · cases q3
              refine ⟨by omega, ?_⟩
              rw [getD_turn _ _ (by omega), if_pos (by omega), show i - 1 + 1 = i by omega]
              exact q2
          · cases q
      · intro i j' _ _ q; cases q
  | ins c k x n =>
    obtain ⟨hc, hk, hw10, hxy, hn⟩ := hok
    obtain ⟨wy, wz⟩ := gw.all _ (getD_mem hc)
    have hxl := hy.lt x hxy
    refine ⟨wsOk_set gw ⟨fun z hz => ?_, by rw [List.length_append, List.length_append, List.length_append, List.length_take, List.length_drop, List.length_singleton, List.length_singleton]; omega⟩, by show ((L.map _).set _ _).length = _; rw [List.length_set, List.length_map]; exact gl, fun j l b hl hb => ?_⟩
    · rcases List.mem_append.mp hz with q | q
      · rcases List.mem_append.mp q with q | q
        · rcases List.mem_append.mp q with q | q
          · exact wy z (List.mem_of_mem_take q)
          · rw [List.mem_singleton.mp q]; exact hxy
        · rw [List.mem_singleton.mp q]; exact hy.cl x hxy
      · exact wy z (List.mem_of_mem_drop q)
    · have hbm := List.mem_of_getElem? hb
      have hbs := bl b hbm
      have hjl : j < L.length := by rw [gl]; exact (List.getElem?_eq_some_iff.mp hb).1
      have hLj : L[j]? = some L[j] := List.getElem?_eq_getElem hjl
      have hp := go j _ b hLj hb
      have base : (strAll b (ws.set c ((ws.getD c []).take k ++ [x] ++ [ctr x] ++ (ws.getD c []).drop k)) (ws.set c ((ws.getD c []).take k ++ [x] ++ [ctr x] ++ (ws.getD c []).drop k)).length).Perm ((if onB b x = true then [k, k + 1] else []).map (fun j => (c, j)) ++ renM c (inF k) (strAll b ws ws.length)) := by
        refine ren_perm hc ?_ ?_ ?_ ?_
        · split
          · simp
          · exact List.nodup_nil
        · intro i i' j' _ _ e1 e2
          unfold inF at e1 e2
          split at e1 <;> split at e2 <;> (have a1 := Option.some.inj e1; have a2 := Option.some.inj e2; omega)
        · intro j'
          have hlen : ((ws.getD c []).take k ++ [x] ++ [ctr x] ++ (ws.getD c []).drop k).length = (ws.getD c []).length + 2 := by rw [List.length_append, List.length_append, List.length_append, List.length_take, List.length_drop, List.length_singleton, List.length_singleton]; omega
          rw [hlen, getD_ins _ _ _ _ hk]
          constructor
          · rintro ⟨q1, q2⟩
            by_cases z : j' < k
            · rw [if_pos z] at q2; exact .inl ⟨j', by omega, q2, by unfold inF; rw [if_pos z]⟩
            · rw [if_neg z] at q2
              by_cases z1 : j' = k
              · rw [if_pos z1] at q2; exact .inr (by rw [if_pos q2, z1]; exact List.mem_cons_self)
              · rw [if_neg z1] at q2
                by_cases z2 : j' = k + 1
                · rw [if_pos z2, onB_ctr (.inl hbs) hxl] at q2; exact .inr (by rw [if_pos q2, z2]; exact List.mem_cons_of_mem _ List.mem_cons_self)
                · rw [if_neg z2] at q2; exact .inl ⟨j' - 2, by omega, q2, by unfold inF; rw [if_neg (by omega)]; congr 1; omega⟩
          · rintro (⟨i, q1, q2, q3⟩ | q)
            · unfold inF at q3
              split at q3
              · rename_i z; cases q3; rw [if_pos z]; exact ⟨by omega, q2⟩
              · cases q3
                rw [if_neg (by omega), if_neg (by omega), if_neg (by omega), show i + 2 - 2 = i by omega]
                exact ⟨by omega, q2⟩
            · split at q
              · rename_i z
                rcases List.mem_cons.mp q with e | q
                · rw [e, if_neg (by omega), if_pos rfl]; exact ⟨by omega, z⟩
                · rw [List.mem_singleton.mp q, if_neg (by omega), if_neg (by omega), if_pos rfl, onB_ctr (.inl hbs) hxl]; exact ⟨by omega, z⟩
              · cases q
        · intro i j' _ e1 q
          split at q
          · unfold inF at e1
            have hq : j' = k \/ j' = k + 1 := by simpa using q
            split at e1 <;> (have a1 := Option.some.inj e1; omega)
          · cases q
      have hon : onB b x = decide (PyProof.Rows.lo1 x = b) := (low_on hbs hxl).symm
      rcases set_mem (show ((L.map (renM c (inF k))).set ((bsOf y).idxOf (PyProof.Rows.lo1 x)) (put2 n (c, k) (c, k + 1) (renM c (inF k) (L.getD ((bsOf y).idxOf (PyProof.Rows.lo1 x)) []))))[j]? = some l from hl) with ⟨e1, e2⟩ | ⟨e1, e2⟩
      · subst e1
        have hlo := lo_in hy hxy
        have hbe : b = PyProof.Rows.lo1 x := by
          have hj := List.idxOf_lt_length_of_mem hlo
          rw [List.getElem?_eq_getElem hj, List.getElem_idxOf hj] at hb
          exact (Option.some.inj hb).symm
        rw [hon, decide_eq_true hbe.symm, if_pos rfl] at base
        rw [e2, getD_of hLj]
        exact (put2_perm _ _ _ _).trans ((((hp.filterMap (ren1 c (inF k))).cons _).cons _).trans base.symm)
      · have hne : ¬ PyProof.Rows.lo1 x = b := fun z => e1 (by
          have hj := List.getElem?_eq_some_iff.mp hb
          have hnd : (bsOf y).Nodup := (bsOf_perm y).nodup_iff.mpr (hy.nd.filter _)
          rw [z]
          exact (idxOf_nd hnd hb).symm)
        rw [hon, decide_eq_false hne, if_neg (by decide)] at base
        obtain ⟨l0, hl0, rfl⟩ := Option.map_eq_some_iff.mp (by rw [<- List.getElem?_map]; exact e2)
        rw [hLj] at hl0
        cases hl0
        exact (hp.filterMap (ren1 c (inF k))).trans base.symm
structure Dd where
  a : Addr
  e : Deed
noncomputable def ddv (ds : List Dd) : List V := ds.map fun x => V.ref x.a
theorem ddv_len (ds : List Dd) : (ddv ds).length = ds.length := by unfold ddv; rw [List.length_map]
theorem ddv_at {ds : List Dd} {i : Nat} {x : V} (h : (ddv ds)[i]? = some x) : ∃ p, ds[i]? = some p /\ x = V.ref p.a := by
  unfold ddv at h
  rw [List.getElem?_map] at h
  cases e : ds[i]? with
  | none => rw [e] at h; cases h
  | some p => rw [e] at h; cases h; exact ⟨p, rfl, rfl⟩
noncomputable def Path (y : List Nat) : List (List Nat) -> Ords -> List Deed -> Prop
  | _, _, [] => True
  | ws, L, e :: es => Dok y (bsOf y) ws L e /\ Path y (dW ws e) (dO (bsOf y) ws L e) es
noncomputable def runD (y : List Nat) : List (List Nat) -> Ords -> List Deed -> List (List Nat) × Ords
  | ws, L, [] => (ws, L)
  | ws, L, e :: es => runD y (dW ws e) (dO (bsOf y) ws L e) es
theorem bs_nd {y : List Nat} (hy : Yd y) : (bsOf y).Nodup := (bsOf_perm y).nodup_iff.mpr (hy.nd.filter _)
theorem Good.len {y : List Nat} {ws : List (List Nat)} {os : List Od} (g : Good y ws (os.map prs)) : ∀ o ∈ os, o.ps.length <= 48 := fun o ho => by
  obtain ⟨j, hj⟩ := List.mem_iff_getElem?.mp ho
  have hl := g.lk.1
  rw [List.length_map] at hl
  have hjb : j < (bsOf y).length := by rw [<- hl]; exact (List.getElem?_eq_some_iff.mp hj).1
  have hp := g.lk.2 j (prs o) _ (by rw [List.getElem?_map, hj]; rfl) (List.getElem?_eq_getElem hjb)
  have h1 := hp.length_eq
  unfold prs at h1
  rw [List.length_map] at h1
  have h2 := strAll_len (bsOf y)[j] (fun w hw => (g.wk.all w hw).2) ws.length (Nat.le_refl _)
  have := g.wk.few
  omega
theorem Good.hold {y : List Nat} {ws : List (List Nat)} {os : List Od} {H : Hp} {d wl : Addr} (hy : Yd y) (hz : y.length <= 8) (g : Good y ws (os.map prs)) (h : OrdAt H d (bsOf y) os) (hw : H wl = some (.lst (txs ws))) (ne : ∀ o ∈ os, o.o ≠ wl) : Hold H d wl (bsOf y) os ws := by
  have hbl := bsOf_len hy
  refine ⟨h, hw, bs_nd hy, by omega, ne, fun o ho p hp => ?_, g.wk.few, fun w hw => ⟨fun c hc => hy.lt c ((g.wk.all w hw).1 c hc), (g.wk.all w hw).2⟩⟩
  obtain ⟨j, hj⟩ := List.mem_iff_getElem?.mp ho
  have hjb : j < (bsOf y).length := by rw [<- h.ln]; exact (List.getElem?_eq_some_iff.mp hj).1
  have hpm := g.lk.2 j (prs o) _ (by rw [List.getElem?_map, hj]; rfl) (List.getElem?_eq_getElem hjb)
  have hm : (p.c, p.i) ∈ prs o := List.mem_map.mpr ⟨p, hp, rfl⟩
  obtain ⟨m1, m2, _⟩ := mem_str.mp (hpm.mem_iff.mp hm)
  refine ⟨ws[p.c], List.getElem?_eq_getElem m1, ?_⟩
  rw [getD_of (List.getElem?_eq_getElem m1)] at m2
  exact m2
noncomputable def sp_done (_ : PySem.W.Frag) : Sp := fun vs H Q _ => ∃ (y : List Nat) (dr : Addr) (ws : List (List Nat)) (os : List Od) (ep : Addr) (ds : List Dd), vs = [.str (S y), .ref dr, .ref ep] /\ Yd y /\ y.length <= 8 /\ Good y ws (os.map prs) /\ DrAt H dr ws os /\ H ep = some (.lst (ddv ds)) /\ (∀ x ∈ ds, DeedAt H x.a x.e) /\ ds.length <= 50000 /\ Path y ws (os.map prs) (ds.map Dd.e) /\
  ∀ (dr' : Addr) (os' : List Od) (H' : Hp), DrAt H' dr' (runD y ws (os.map prs) (ds.map Dd.e)).1 os' -> os'.map prs = (runD y ws (os.map prs) (ds.map Dd.e)).2 -> Good y (runD y ws (os.map prs) (ds.map Dd.e)).1 (os'.map prs) -> Same H H' -> Q (.ref dr') H'
theorem len_done {K : PySem.W.Frag} {vs : List V} {H : Hp} {Q : VK} {E : XK} (h : sp_done K vs H Q E) : vs.length = 3 := by obtain ⟨_, _, _, _, _, _, rfl, _⟩ := h; rfl
theorem ordK_snoc {bs : List Nat} {cur : List Od} {b : Nat} {o : Od} (h : cur.length = bs.length) : ordK bs cur ++ [(kS [b], V.ref o.o)] = ordK (bs ++ [b]) (cur ++ [o]) := by
  unfold ordK
  rw [List.zip_append h.symm, List.map_append]
  rfl
theorem OsOk.lok {y : List Nat} {ws : List (List Nat)} {os : List Od} (h : OsOk y ws os) : LOk y ws (os.map prs) := ⟨by rw [List.length_map]; exact h.1, fun j l b hl hb => by
  rw [List.getElem?_map] at hl
  cases e : os[j]? with
  | none => rw [e] at hl; cases hl
  | some o => rw [e] at hl; cases hl; exact h.2 j o b e hb⟩
theorem cut_sgs (l : List Nat) (lo hi : Option Int) : cutV (sgs l) lo hi = sgs (cut l lo hi) := by unfold sgs cutV cut; rw [List.length_map, <- List.map_drop, <- List.map_take]
theorem cut_init2 (m : List Nat) (a c : Nat) : cut (m ++ [a, c]) none (some (-2)) = m := by
  have hl : (m ++ [a, c]).length = m.length + 2 := by simp
  have e2 : ∀ n d, HT.sIx n d (some (-2)) = n - 2 := fun n d => by
    have e : HT.sIx n d (some (-2)) = (if (-2 : Int) < 0 then ((-2 : Int) + (n : Int)).toNat else min (-2 : Int).toNat n) := rfl
    rw [e, if_pos (by decide)]; omega
  unfold cut
  rw [HT.sIx_none, e2, hl]
  simp
theorem atI_m2 {α : Type} (xs : List α) (v u : α) : atI (xs ++ [v, u]) (-2) = some v := by
  have hl : (xs ++ [v, u]).length = xs.length + 2 := by simp
  have e : ixN (xs ++ [v, u]).length (-2) = some xs.length := by
    unfold ixN
    rw [hl, if_neg (by decide), if_pos (by omega)]
    congr 1
    omega
  unfold atI
  rw [e]
  show (xs ++ [v, u])[xs.length]? = some v
  simp
theorem Good.few {y : List Nat} {ws : List (List Nat)} {L : Ords} (h : Good y ws L) : ws.length <= 4 := h.wk.few
theorem Good.all12 {y : List Nat} {ws : List (List Nat)} {L : Ords} (h : Good y ws L) : ∀ w ∈ ws, (∀ c ∈ w, c ∈ y) /\ w.length <= 12 := h.wk.all
theorem Good.ln {y : List Nat} {ws : List (List Nat)} {L : Ords} (h : Good y ws L) : L.length = (bsOf y).length := h.lk.1
theorem txs_get {ws : List (List Nat)} {i : Nat} {x : V} (h : (txs ws)[i]? = some x) : ∃ w, ws[i]? = some w /\ x = .str (S w) := by
  unfold txs at h
  rw [List.getElem?_map] at h
  cases e : ws[i]? with
  | none => rw [e] at h; cases h
  | some w => rw [e] at h; cases h; exact ⟨w, rfl, rfl⟩
theorem sum_le {ws : List (List Nat)} (h : ∀ w ∈ ws, w.length <= 12) : (ws.map List.length).sum <= 12 * ws.length := by
  induction ws with
  | nil => simp
  | cons a l ih => rw [List.map_cons, List.sum_cons, List.length_cons]; have := ih fun w hw => h w (List.mem_cons_of_mem _ hw); have := h a List.mem_cons_self; omega
inductive WP (y : List Nat) (c : Nat) : List Nat -> List Deed -> List Nat -> Prop
  | nil {w : List Nat} : WP y c w [] w
  | out {w v : List Nat} {k x : Nat} {es : List Deed} : w[k]? = some x -> w[k + 1]? = some (ctr x) -> WP y c (w.take k ++ w.drop (k + 2)) es v -> WP y c w (.out c k :: es) v
  | turn {w v : List Nat} {es : List Deed} : WP y c (w.drop 1 ++ w.take 1) es v -> WP y c w (.turn c :: es) v
  | ins {w v : List Nat} {k x : Nat} {es : List Deed} : k <= w.length -> w.length <= 10 -> x ∈ y -> WP y c (w.take k ++ [x] ++ [ctr x] ++ w.drop k) es v -> WP y c w (.ins c k x 0 :: es) v
section
variable {y : List Nat} {c : Nat}
theorem WP.app {a b d : List Nat} {es fs : List Deed} (h : WP y c a es b) (g : WP y c b fs d) : WP y c a (es ++ fs) d := by
  induction h with
  | nil => exact g
  | out h1 h2 _ ih => exact .out h1 h2 (ih g)
  | turn _ ih => exact .turn (ih g)
  | ins h1 h2 h3 _ ih => exact .ins h1 h2 h3 (ih g)
theorem set_set2 {α : Type} (l : List α) (i : Nat) (a b : α) : (l.set i a).set i b = l.set i b := by
  induction l generalizing i with
  | nil => rfl
  | cons x l ih => cases i with
    | zero => rfl
    | succ i => show x :: (l.set i a).set i b = x :: l.set i b; rw [ih]
theorem WP.lift (hy : Yd y) {w v : List Nat} {es : List Deed} (h : WP y c w es v) : ∀ {ws : List (List Nat)} {L : Ords}, Good y ws L -> ws[c]? = some w -> Path y ws L es /\ (runD y ws L es).1 = ws.set c v /\ Good y (ws.set c v) (runD y ws L es).2 := by
  induction h with
  | nil =>
    intro ws L g hc
    have e := set_same hc
    exact ⟨trivial, e.symm, by rw [e]; exact g⟩
  | @out w v k x es h1 h2 _ ih =>
    intro ws L g hc
    have hcl := (List.getElem?_eq_some_iff.mp hc).1
    have eg := getD_of (x := []) hc
    have ok : Dok y (bsOf y) ws L (.out c k) := ⟨hcl, x, by rw [eg]; exact h1, by rw [eg]; exact h2⟩
    have eW : dW ws (.out c k) = ws.set c (w.take k ++ w.drop (k + 2)) := by show ws.set c _ = _; rw [eg]
    obtain ⟨i1, i2, i3⟩ := ih (g.step hy ok) (by rw [eW]; exact List.getElem?_set_self hcl)
    have e3 : (dW ws _).set c v = ws.set c v := (congrArg (fun l => l.set c v) eW).trans (set_set2 ws c _ v)
    refine ⟨⟨ok, i1⟩, i2.trans e3, ?_⟩
    rw [<- e3]
    exact i3
  | @turn w v es _ ih =>
    intro ws L g hc
    have hcl := (List.getElem?_eq_some_iff.mp hc).1
    have eg := getD_of (x := []) hc
    have ok : Dok y (bsOf y) ws L (.turn c) := hcl
    have eW : dW ws (.turn c) = ws.set c (w.drop 1 ++ w.take 1) := by show ws.set c _ = _; rw [eg]
    obtain ⟨i1, i2, i3⟩ := ih (g.step hy ok) (by rw [eW]; exact List.getElem?_set_self hcl)
    have e3 : (dW ws _).set c v = ws.set c v := (congrArg (fun l => l.set c v) eW).trans (set_set2 ws c _ v)
    refine ⟨⟨ok, i1⟩, i2.trans e3, ?_⟩
    rw [<- e3]
    exact i3
  | @ins w v k x es h1 h2 h3 _ ih =>
    intro ws L g hc
    have hcl := (List.getElem?_eq_some_iff.mp hc).1
    have eg := getD_of (x := []) hc
    have ok : Dok y (bsOf y) ws L (.ins c k x 0) := ⟨hcl, by rw [eg]; exact h1, by rw [eg]; exact h2, h3, Nat.zero_le _⟩
    have eW : dW ws (.ins c k x 0) = ws.set c (w.take k ++ [x] ++ [ctr x] ++ w.drop k) := by show ws.set c _ = _; rw [eg]
    obtain ⟨i1, i2, i3⟩ := ih (g.step hy ok) (by rw [eW]; exact List.getElem?_set_self hcl)
    have e3 : (dW ws _).set c v = ws.set c v := (congrArg (fun l => l.set c v) eW).trans (set_set2 ws c _ v)
    refine ⟨⟨ok, i1⟩, i2.trans e3, ?_⟩
    rw [<- e3]
    exact i3
theorem path_app : ∀ {es fs : List Deed} {ws : List (List Nat)} {L : Ords}, Path y ws L es -> Path y (runD y ws L es).1 (runD y ws L es).2 fs -> Path y ws L (es ++ fs)
  | [], _, _, _, _, h => h
  | _ :: _, _, _, _, ⟨h1, h2⟩, h => ⟨h1, path_app h2 h⟩
theorem run_app : ∀ {es fs : List Deed} {ws : List (List Nat)} {L : Ords}, runD y ws L (es ++ fs) = runD y (runD y ws L es).1 (runD y ws L es).2 fs
  | [], _, _, _ => rfl
  | _ :: es, _, _, _ => run_app (es := es)
end
inductive Outs : List Nat -> List (Nat × Nat) -> List Nat -> Prop
  | nil {w : List Nat} : Outs w [] w
  | cons {w v : List Nat} {k x : Nat} {ps : List (Nat × Nat)} : w[k]? = some x -> w[k + 1]? = some (ctr x) -> Outs (w.take k ++ w.drop (k + 2)) ps v -> Outs w ((k, x) :: ps) v
theorem Outs.snoc {w u : List Nat} {k x : Nat} {ps : List (Nat × Nat)} (h : Outs w ps u) (h1 : u[k]? = some x) (h2 : u[k + 1]? = some (ctr x)) : Outs w (ps ++ [(k, x)]) (u.take k ++ u.drop (k + 2)) := by
  induction h with
  | nil => exact .cons h1 h2 .nil
  | cons a b _ ih => exact .cons a b (ih h1 h2)
theorem out_len {w : List Nat} {k x : Nat} (h : w[k + 1]? = some x) : (w.take k ++ w.drop (k + 2)).length + 2 = w.length := by
  have := (List.getElem?_eq_some_iff.mp h).1
  rw [List.length_append, List.length_take, List.length_drop]
  omega
theorem out_mem {w : List Nat} {k x : Nat} (h : x ∈ w.take k ++ w.drop (k + 2)) : x ∈ w := (List.mem_append.mp h).elim List.mem_of_mem_take List.mem_of_mem_drop
theorem Outs.len {w v : List Nat} {ps : List (Nat × Nat)} (h : Outs w ps v) : v.length + 2 * ps.length = w.length := by
  induction h with
  | nil => rfl
  | cons _ b _ ih =>
    have := out_len b
    rw [List.length_cons]
    omega
theorem Outs.mem {w v : List Nat} {ps : List (Nat × Nat)} (h : Outs w ps v) : ∀ x ∈ v, x ∈ w := by
  induction h with
  | nil => exact fun _ h => h
  | cons _ _ _ ih => exact fun x hx => out_mem (ih x hx)
theorem Outs.red {w v : List Nat} {ps : List (Nat × Nat)} (h : Outs w ps v) : (∀ c ∈ w, Lt c) -> red v = red w := by
  induction h with
  | nil => exact fun _ => rfl
  | @cons w v k x ps a b _ ih =>
    intro hw
    have hx := hw x (List.mem_of_getElem? a)
    rw [ih fun c hc => hw c (out_mem hc)]
    exact (spot_red ⟨x, ctr x, a, b, (ctr_ctr hx).symm⟩ hw).1
theorem Outs.down {y : List Nat} {c : Nat} {w v : List Nat} {ps : List (Nat × Nat)} (h : Outs w ps v) : WP y c w (ps.map fun p => .out c p.1) v := by
  induction h with
  | nil => exact .nil
  | cons a b _ ih => exact .out a b ih
theorem put_back {w : List Nat} {k x : Nat} (a : w[k]? = some x) (b : w[k + 1]? = some (ctr x)) : (w.take k ++ w.drop (k + 2)).take k ++ [x] ++ [ctr x] ++ (w.take k ++ w.drop (k + 2)).drop k = w := by
  have hk := (List.getElem?_eq_some_iff.mp b).1
  have hl : (w.take k).length = k := by rw [List.length_take]; omega
  rw [List.take_append_of_le_length (by omega), List.take_of_length_le (by omega), List.drop_append_of_le_length (by omega), List.drop_of_length_le (by omega), List.nil_append]
  have e : w = w.take k ++ (x :: ctr x :: w.drop (k + 2)) := by
    have h1 : w.drop k = x :: w.drop (k + 1) := by
      rw [List.drop_eq_getElem_cons (by omega)]
      congr 1
      exact Option.some.inj ((List.getElem?_eq_getElem _).symm.trans a)
    have h2 : w.drop (k + 1) = ctr x :: w.drop (k + 2) := by
      rw [List.drop_eq_getElem_cons hk]
      congr 1
      exact Option.some.inj ((List.getElem?_eq_getElem _).symm.trans b)
    rw [<- h2, <- h1, List.take_append_drop]
  conv => rhs; rw [e]
  simp
theorem Outs.up {y : List Nat} {c : Nat} {w v : List Nat} {ps : List (Nat × Nat)} (h : Outs w ps v) : (∀ x ∈ w, x ∈ y) -> w.length <= 12 -> WP y c v (ps.reverse.map fun p => .ins c p.1 p.2 0) w := by
  induction h with
  | nil => exact fun _ _ => .nil
  | @cons w v k x ps a b _ ih =>
    intro hw hz
    have hl := out_len b
    have h1 := ih (fun x hx => hw x (out_mem hx)) (by omega)
    rw [List.reverse_cons, List.map_append]
    have hk := (List.getElem?_eq_some_iff.mp b).1
    refine h1.app (.ins ?_ (by omega) (hw x (List.mem_of_getElem? a)) ?_)
    · rw [List.length_append, List.length_take, List.length_drop]; show k <= _; omega
    · show WP y c ((w.take k ++ w.drop (k + 2)).take k ++ [x] ++ [ctr x] ++ (w.take k ++ w.drop (k + 2)).drop k) [] w
      rw [put_back a b]
      exact .nil
theorem WP.ends {y : List Nat} {c a z : Nat} {m : List Nat} (hz : a = ctr z) : WP y c (a :: (m ++ [z])) [.turn c, .out c m.length] m := by
  have e1 : (a :: (m ++ [z])).drop 1 ++ (a :: (m ++ [z])).take 1 = m ++ [z, a] := by simp
  refine .turn ?_
  rw [e1]
  refine .out (x := z) (by simp) (by rw [List.getElem?_append_right (by omega)]; simp [hz]) ?_
  have e2 : (m ++ [z, a]).take m.length ++ (m ++ [z, a]).drop (m.length + 2) = m := by simp
  rw [e2]
  exact .nil
theorem WP.onto {y : List Nat} {c x : Nat} {u : List Nat} (hx : Lt x) (hm : ctr x ∈ y) (hz : u.length <= 10) : WP y c u [.ins c 0 (ctr x) 0, .turn c] (x :: u ++ [ctr x]) := by
  refine .ins (Nat.zero_le _) hz hm (.turn ?_)
  have e : (u.take 0 ++ [ctr x] ++ [ctr (ctr x)] ++ u.drop 0).drop 1 ++ (u.take 0 ++ [ctr x] ++ [ctr (ctr x)] ++ u.drop 0).take 1 = x :: u ++ [ctr x] := by rw [ctr_ctr hx]; simp
  rw [e]
  exact .nil
noncomputable def upDs (c : Nat) : List Nat -> List Deed
  | [] => []
  | x :: l => .ins c 0 (ctr x) 0 :: .turn c :: upDs c l
theorem upDs_snoc (c : Nat) : ∀ (l : List Nat) (x : Nat), upDs c (l ++ [x]) = upDs c l ++ [.ins c 0 (ctr x) 0, .turn c]
  | [], _ => rfl
  | a :: l, x => by show _ :: _ :: upDs c (l ++ [x]) = _ :: _ :: (upDs c l ++ _); rw [upDs_snoc c l x]
theorem WP.onall {y : List Nat} {c : Nat} : ∀ (p u : List Nat), (∀ x ∈ p, Lt x /\ ctr x ∈ y) -> u.length + 2 * p.length <= 12 -> WP y c u (upDs c p.reverse) (p ++ u ++ tnd p)
  | [], u, _, _ => by
    show WP y c u [] ([] ++ u ++ tnd [])
    have : ([] : List Nat) ++ u ++ tnd [] = u := by unfold tnd; simp
    rw [this]
    exact .nil
  | x :: p, u, h, hz => by
    have hl : (p ++ u ++ tnd p).length = u.length + 2 * p.length := by unfold tnd; simp; omega
    have ih := WP.onall (y := y) (c := c) p u (fun z hz' => h z (List.mem_cons_of_mem _ hz')) (by rw [List.length_cons] at hz; omega)
    obtain ⟨h1, h2⟩ := h x List.mem_cons_self
    rw [List.reverse_cons, upDs_snoc]
    have := ih.app (WP.onto (y := y) (c := c) h1 h2 (by rw [hl]; rw [List.length_cons] at hz; omega))
    have e : x :: (p ++ u ++ tnd p) ++ [ctr x] = x :: p ++ u ++ tnd (x :: p) := by rw [tnd_cons]; simp
    rw [<- e]
    exact this
noncomputable def turnsD (c : Nat) (n : Nat) : List Deed := List.replicate n (.turn c)
theorem rot_succ {a : List Nat} {n : Nat} (h : n < a.length) : (rot a n).drop 1 ++ (rot a n).take 1 = rot a (n + 1) := by
  unfold rot
  have e : a.take (n + 1) = a.take n ++ [a[n]] := by rw [List.take_succ, List.getElem?_eq_getElem h]; rfl
  have e2 : a.drop n = a[n] :: a.drop (n + 1) := List.drop_eq_getElem_cons h
  rw [e2, e]
  show (a.drop (n + 1) ++ a.take n) ++ [a[n]] = _
  rw [List.append_assoc]
theorem WP.turns {y : List Nat} {c : Nat} {a : List Nat} : ∀ n, n <= a.length -> WP y c a (turnsD c n) (rot a n)
  | 0, _ => by rw [rot_zero]; exact .nil
  | n + 1, h => by
    have e : turnsD c (n + 1) = turnsD c n ++ [.turn c] := by unfold turnsD; rw [List.replicate_succ']
    rw [e]
    refine (WP.turns n (by omega)).app (.turn ?_)
    rw [rot_succ (by omega)]
    exact .nil
theorem ring_turns {a b : List Nat} (h : ringM a = ringM b) : ∃ t, t <= (core (red a)).length /\ rot (core (red a)) t = core (red b) := by
  rw [ringM_eq, ringM_eq] at h
  obtain ⟨i, hi, e1⟩ := ringC_some (core (red a))
  obtain ⟨j, hj, e2⟩ := ringC_some (core (red b))
  have hl : (core (red a)).length = (core (red b)).length := by
    have h1 := congrArg List.length e1
    have h2 := congrArg List.length e2
    rw [rot_len] at h1 h2
    rw [<- h1, <- h2, h]
  have e3 : rot (core (red a)) i = rot (core (red b)) j := by rw [<- e1, <- e2, h]
  have back : rot (rot (core (red b)) j) ((core (red b)).length - j) = core (red b) := by
    have := rot_app ((core (red b)).drop j) ((core (red b)).take j)
    rw [List.length_drop, List.take_append_drop] at this
    exact this
  obtain ⟨t, ht, e4⟩ := rot_rot (c := core (red a)) (k := i) (j := (core (red b)).length - j) hi (by omega)
  exact ⟨t, ht, by rw [<- e4, e3, back]⟩
theorem core_more {u : List Nat} (h : (core u).length < u.length) : ∃ a m z, u = a :: (m ++ [z]) /\ a = ctr z /\ core m = core u := by
  by_cases h2 : 2 <= u.length
  · obtain ⟨a, m, z, rfl⟩ := ends2 h2
    by_cases e : a = ctr z
    · exact ⟨a, m, z, rfl, e, (core_go e).symm⟩
    · rw [core_stop e] at h; omega
  · rw [core_short (by omega)] at h; omega
inductive SP : List (Nat × Nat) -> List Nat -> List (Nat × Nat) -> Prop
  | nil {l : List (Nat × Nat)} : SP l [] l
  | cons {l l' : List (Nat × Nat)} {k : Nat} {ks : List Nat} : k + 1 < l.length -> SP (swapP k l) ks l' -> SP l (k :: ks) l'
theorem SP.app {a b d : List (Nat × Nat)} {ks ls : List Nat} (h : SP a ks b) (g : SP b ls d) : SP a (ks ++ ls) d := by
  induction h with
  | nil => exact g
  | cons h1 _ ih => exact .cons h1 (ih g)
theorem swapP_at (a d : List (Nat × Nat)) (p q : Nat × Nat) : swapP a.length (a ++ p :: q :: d) = a ++ q :: p :: d := by
  unfold swapP
  have e1 : (a ++ p :: q :: d)[a.length]? = some p := by simp
  have e2 : (a ++ p :: q :: d)[a.length + 1]? = some q := by rw [List.getElem?_append_right (by omega)]; simp
  rw [e1, e2]
  show ((a ++ p :: q :: d).set a.length q).set (a.length + 1) p = _
  rw [List.set_append_right _ _ (Nat.le_refl _), Nat.sub_self, List.set_cons_zero, List.set_append_right _ _ (by omega)]
  simp
noncomputable def downK (place j : Nat) : List Nat := (List.range j).map fun t => place - 1 - t
theorem downK_succ (place j : Nat) (h : j + 1 <= place) : downK place (j + 1) = (place - 1) :: downK (place - 1) j := by
  unfold downK
  rw [List.range_succ_eq_map, List.map_cons, List.map_map]
  congr 1
  refine List.map_congr_left fun t ht => ?_
  show place - 1 - (t + 1) = place - 1 - 1 - t
  omega
theorem SP.down (A : List (Nat × Nat)) (x : Nat × Nat) : ∀ (j : Nat) (M B : List (Nat × Nat)), M.length = j -> SP (A ++ M ++ x :: B) (downK (A.length + j) j) (A ++ x :: M ++ B)
  | 0, M, B, h => by
    have : M = [] := List.length_eq_zero_iff.mp h
    subst this
    have e : A ++ [] ++ x :: B = A ++ x :: [] ++ B := by simp
    rw [e]
    exact .nil
  | j + 1, M, B, h => by
    have hM : M ≠ [] := fun z => by rw [z] at h; simp at h
    have eM : M = M.dropLast ++ [M.getLast hM] := (List.dropLast_concat_getLast hM).symm
    have hl : M.dropLast.length = j := by rw [List.length_dropLast]; omega
    generalize M.dropLast = M' at eM hl
    generalize M.getLast hM = z at eM
    subst eM
    rw [downK_succ _ _ (by omega)]
    have hk : A.length + (j + 1) - 1 = (A ++ M').length := by rw [List.length_append, hl]; omega
    rw [hk]
    refine .cons (by simp; omega) ?_
    have e1 : A ++ (M' ++ [z]) ++ x :: B = (A ++ M') ++ z :: x :: B := by simp
    rw [e1, swapP_at]
    have ih := SP.down A x j M' (z :: B) hl
    have e2 : (A ++ M').length = A.length + j := by rw [List.length_append, hl]
    rw [e2]
    have e3 : A ++ x :: (M' ++ [z]) ++ B = A ++ x :: M' ++ z :: B := by simp
    rw [e3]
    exact ih
theorem SP.lift {y : List Nat} (hy : Yd y) {l l' : List (Nat × Nat)} {ks : List Nat} {j b : Nat} (h : SP l ks l') : ∀ {ws : List (List Nat)} {L : Ords}, (bsOf y)[j]? = some b -> L[j]? = some l -> Path y ws L (ks.map fun k => .swap b k) /\ runD y ws L (ks.map fun k => .swap b k) = (ws, L.set j l') := by
  induction h with
  | nil =>
    intro ws L hb hl
    exact ⟨trivial, by rw [set_same hl]; rfl⟩
  | @cons l l' k ks h1 _ ih =>
    intro ws L hb hl
    have hi := idxOf_nd (bs_nd hy) hb
    have hjl := (List.getElem?_eq_some_iff.mp hl).1
    have eg : L.getD ((bsOf y).idxOf b) [] = l := by rw [hi]; exact getD_of hl
    have ok : Dok y (bsOf y) ws L (.swap b k) := ⟨List.mem_of_getElem? hb, by rw [eg]; exact h1⟩
    have eO : dO (bsOf y) ws L (.swap b k) = L.set j (swapP k l) := by
      show L.set ((bsOf y).idxOf b) (swapP k (L.getD ((bsOf y).idxOf b) [])) = _
      rw [eg, hi]
    obtain ⟨i1, i2⟩ := ih (ws := ws) (L := dO (bsOf y) ws L (.swap b k)) hb (by rw [eO]; exact List.getElem?_set_self hjl)
    refine ⟨⟨ok, i1⟩, i2.trans ?_⟩
    rw [eO, set_set2]
theorem SP.perm {l l' : List (Nat × Nat)} {ks : List Nat} (h : SP l ks l') : l'.Perm l := by
  induction h with
  | nil => exact List.Perm.refl _
  | cons _ _ ih => exact ih.trans (swapP_perm _ _)
structure Pq where
  t : Addr
  k : Nat
  x : Nat
noncomputable def Pq.pr (p : Pq) : Nat × Nat := (p.k, p.x)
noncomputable def pqv (ps : List Pq) : List V := ps.map fun p => V.ref p.t
theorem pqv_len (ps : List Pq) : (pqv ps).length = ps.length := by unfold pqv; rw [List.length_map]
theorem pqv_snoc (ps : List Pq) (p : Pq) : pqv ps ++ [V.ref p.t] = pqv (ps ++ [p]) := by unfold pqv; rw [List.map_append]; rfl
theorem pqv_at {ps : List Pq} {i : Nat} {x : V} (h : (pqv ps)[i]? = some x) : ∃ p, ps[i]? = some p /\ x = V.ref p.t := by
  unfold pqv at h
  rw [List.getElem?_map] at h
  cases e : ps[i]? with
  | none => rw [e] at h; cases h
  | some p => rw [e] at h; cases h; exact ⟨p, rfl, rfl⟩
noncomputable def PqOk (H : Hp) (p : Pq) : Prop := H p.t = some (.tup [.int p.k, .str (S [p.x])])
noncomputable def sp_pairs_out (_ : PySem.W.Frag) : Sp := fun vs H Q _ => ∃ w : List Nat, vs = [.str (S w)] /\ (∀ c ∈ w, Lt c) /\ w.length <= 12 /\
  ∀ (t : Addr) (ps : List Pq) (H' : Hp), H t = none -> H' t = some (.lst (pqv ps)) -> (∀ p ∈ ps, PqOk H' p) -> Outs w (ps.map Pq.pr) (red w) -> Same H H' -> Q (.ref t) H'
theorem len_pairs_out {K : PySem.W.Frag} {vs : List V} {H : Hp} {Q : VK} {E : XK} (h : sp_pairs_out K vs H Q E) : vs.length = 1 := by obtain ⟨_, rfl, _⟩ := h; rfl
noncomputable def TellsD (H : Hp) (Q : VK) (P : List Deed -> Prop) (n : Nat) : Prop := ∀ (t : Addr) (ds : List Dd) (H' : Hp), H t = none -> H' t = some (.lst (ddv ds)) -> (∀ x ∈ ds, DeedAt H' x.a x.e) -> P (ds.map Dd.e) -> ds.length <= n -> Same H H' -> Q (.ref t) H'
noncomputable def sp_way_down (_ : PySem.W.Frag) : Sp := fun vs H Q _ => ∃ (y : List Nat) (c : Nat) (w : List Nat), vs = [.int c, .str (S w)] /\ (∀ c ∈ w, Lt c) /\ w.length <= 12 /\ TellsD H Q (fun es => WP y c w es (core (red w))) 100
theorem len_way_down {K : PySem.W.Frag} {vs : List V} {H : Hp} {Q : VK} {E : XK} (h : sp_way_down K vs H Q E) : vs.length = 2 := by obtain ⟨_, _, _, rfl, _⟩ := h; rfl
noncomputable def sp_way_up (_ : PySem.W.Frag) : Sp := fun vs H Q _ => ∃ (y : List Nat) (c : Nat) (w : List Nat), vs = [.int c, .str (S w)] /\ Yd y /\ (∀ c ∈ w, c ∈ y) /\ w.length <= 12 /\ TellsD H Q (fun es => WP y c (core (red w)) es w) 100
theorem len_way_up {K : PySem.W.Frag} {vs : List V} {H : Hp} {Q : VK} {E : XK} (h : sp_way_up K vs H Q E) : vs.length = 2 := by obtain ⟨_, _, _, rfl, _⟩ := h; rfl
noncomputable def sp_turns_between (_ : PySem.W.Frag) : Sp := fun vs H Q _ => ∃ (a b : List Nat), vs = [.str (S a), .str (S b)] /\ a.length <= 1000 /\ (∃ t, t <= a.length /\ rot a t = b) /\ ∀ t, t <= a.length -> rot a t = b -> Q (.int (t : Nat)) H
theorem len_turns_between {K : PySem.W.Frag} {vs : List V} {H : Hp} {Q : VK} {E : XK} (h : sp_turns_between K vs H Q E) : vs.length = 2 := by obtain ⟨_, _, rfl, _⟩ := h; rfl
noncomputable def sp_word_road (_ : PySem.W.Frag) : Sp := fun vs H Q _ => ∃ (y : List Nat) (c : Nat) (w v : List Nat), vs = [.int c, .str (S w), .str (S v)] /\ Yd y /\ (∀ c ∈ w, c ∈ y) /\ w.length <= 12 /\ (∀ c ∈ v, c ∈ y) /\ v.length <= 12 /\ ringM w = ringM v /\ TellsD H Q (fun es => WP y c w es v) 1000
theorem len_word_road {K : PySem.W.Frag} {vs : List V} {H : Hp} {Q : VK} {E : XK} (h : sp_word_road K vs H Q E) : vs.length = 3 := by obtain ⟨_, _, _, _, rfl, _⟩ := h; rfl
noncomputable def sp_order_road (_ : PySem.W.Frag) : Sp := fun vs H Q _ => ∃ (b : Nat) (o p : Od), vs = [.str (S [b]), .ref o.o, .ref p.o] /\ OdOk H o /\ OdOk H p /\ (prs o).Perm (prs p) /\ (prs p).Nodup /\ TellsD H Q (fun es => ∃ ks, es = ks.map (fun k => .swap b k) /\ SP (prs o) ks (prs p)) 10000
theorem len_order_road {K : PySem.W.Frag} {vs : List V} {H : Hp} {Q : VK} {E : XK} (h : sp_order_road K vs H Q E) : vs.length = 3 := by obtain ⟨_, _, _, rfl, _⟩ := h; rfl
theorem zip_ring : ∀ {ws vs' : List (List Nat)}, ws.length = vs'.length -> ((ws.zip vs').map (fun p => decide (ringM p.1 = ringM p.2))).all id = decide (ws.map ringM = vs'.map ringM)
  | [], [], _ => rfl
  | [], _ :: _, h => by cases h
  | _ :: _, [], h => by cases h
  | w :: ws, v :: vs', h => by
    have ih := zip_ring (ws := ws) (vs' := vs') (Nat.succ.inj h)
    rw [List.zip_cons_cons, List.map_cons, List.all_cons, ih]
    by_cases e : ringM w = ringM v <;> by_cases g : ws.map ringM = vs'.map ringM <;> simp [e, g]
noncomputable def sp_same_cords (_ : PySem.W.Frag) : Sp := fun vs H Q _ => ∃ (t u : Addr) (ws vs' : List (List Nat)), vs = [.ref t, .ref u] /\ H t = some (.tup (txs ws)) /\ H u = some (.tup (txs vs')) /\ ws.length <= 4 /\ vs'.length <= 4 /\ (∀ w ∈ ws, (∀ c ∈ w, Lt c) /\ w.length <= 12) /\ (∀ w ∈ vs', (∀ c ∈ w, Lt c) /\ w.length <= 12) /\
  ∀ H', Same H H' -> Q (.bl (decide (ws.map ringM = vs'.map ringM))) H'
theorem len_same_cords {K : PySem.W.Frag} {vs : List V} {H : Hp} {Q : VK} {E : XK} (h : sp_same_cords K vs H Q E) : vs.length = 2 := by obtain ⟨_, _, _, _, rfl, _⟩ := h; rfl
noncomputable def sp_road (_ : PySem.W.Frag) : Sp := fun vs H Q _ => ∃ (y : List Nat) (d e : Addr) (ws vs' : List (List Nat)) (os ps : List Od), vs = [.str (S y), .ref d, .ref e] /\ Yd y /\ y.length <= 8 /\ Good y ws (os.map prs) /\ Good y vs' (ps.map prs) /\ DrAt H d ws os /\ DrAt H e vs' ps /\
  (ws.map ringM ≠ vs'.map ringM -> ∀ H', Same H H' -> Q .non H') /\ (ws.map ringM = vs'.map ringM -> TellsD H Q (fun es => Path y ws (os.map prs) es /\ runD y ws (os.map prs) es = (vs', ps.map prs)) 50000)
theorem len_road {K : PySem.W.Frag} {vs : List V} {H : Hp} {Q : VK} {E : XK} (h : sp_road K vs H Q E) : vs.length = 3 := by obtain ⟨_, _, _, _, _, _, _, rfl, _⟩ := h; rfl
theorem ddv_app2 (ds : List Dd) (x : Dd) : ddv ds ++ [V.ref x.a] = ddv (ds ++ [x]) := by unfold ddv; rw [List.map_append]; rfl
theorem ddv_cat (a b : List Dd) : ddv a ++ ddv b = ddv (a ++ b) := by unfold ddv; rw [List.map_append]
structure DsAt (H0 H : Hp) (t : Addr) (ds : List Dd) : Prop where
  ls : H t = some (.lst (ddv ds))
  de : ∀ x ∈ ds, DeedAt H x.a x.e
  sm : Same H0 H
theorem DsAt.push {H0 H H1 : Hp} {t a : Addr} {ds : List Dd} {e : Deed} (h : DsAt H0 H t ds) (n : H0 t = none) (s : Same H H1) (ha : DeedAt H1 a e) : DsAt H0 (upd H1 t (.lst (ddv (ds ++ [⟨a, e⟩])))) t (ds ++ [⟨a, e⟩]) := by
  have ht := s _ _ h.ls
  have tU := TSame.updL (o := HO.lst (ddv (ds ++ [⟨a, e⟩]))) ht
  refine ⟨upd_same, fun x hx => ?_, fun x o ex => by rw [upd_ne (ne_of_none ex n)]; exact s _ _ (h.sm _ _ ex)⟩
  rcases List.mem_append.mp hx with g | g
  · exact ((h.de x g).ts (TSame.of s)).ts tU
  · rw [List.mem_singleton.mp g]; exact ha.ts tU
theorem DsAt.same {H0 H H1 : Hp} {t : Addr} {ds : List Dd} (h : DsAt H0 H t ds) (s : Same H H1) : DsAt H0 H1 t ds := ⟨s _ _ h.ls, fun x hx => (h.de x hx).ts (TSame.of s), h.sm.trans s⟩
theorem fold_mem : ∀ (l st : List Nat) {x : Nat}, x ∈ l.foldl rstep st -> x ∈ st \/ x ∈ l
  | [], _, _, h => .inl h
  | a :: l, st, x, h => by
    rcases fold_mem l (rstep st a) h with g | g
    · rcases rstep_mem g with g | g
      · exact .inl g
      · exact .inr (by rw [g]; exact List.mem_cons_self)
    · exact .inr (List.mem_cons_of_mem _ g)
theorem red_mem {w : List Nat} {x : Nat} (h : x ∈ red w) : x ∈ w := (fold_mem w [] h).resolve_left List.not_mem_nil
theorem upDs_len (c : Nat) : ∀ l : List Nat, (upDs c l).length = 2 * l.length
  | [] => rfl
  | a :: l => by show (upDs c l).length + 1 + 1 = 2 * (l.length + 1); rw [upDs_len c l]; omega
theorem rep_turn (a : Addr) (c : Nat) : ∀ n : Nat, (List.replicate n [V.ref a]).flatten = ddv (List.replicate n ⟨a, .turn c⟩)
  | 0 => rfl
  | n + 1 => by rw [List.replicate_succ, List.flatten_cons, rep_turn a c n, List.replicate_succ]; rfl
theorem eqv_pr (p q : Nat × Nat) : PyData.eqv (prD p) (prD q) = decide (p = q) := by
  obtain ⟨a, b⟩ := p
  obtain ⟨c, d⟩ := q
  show (decide ((a : Int) = (c : Int)) && (decide ((b : Int) = (d : Int)) && true)) = _
  by_cases h1 : a = c
  · by_cases h2 : b = d
    · subst h1; subst h2; simp
    · rw [decide_eq_false (show ¬ (b : Int) = (d : Int) by omega), decide_eq_false (show ¬ (a, b) = (c, d) from fun z => h2 (Prod.mk.inj z).2)]; simp
  · rw [decide_eq_false (show ¬ (a : Int) = (c : Int) by omega), decide_eq_false (show ¬ (a, b) = (c, d) from fun z => h1 (Prod.mk.inj z).1)]; simp
theorem idx_split {l : List (Nat × Nat)} {p : Nat × Nat} : p ∈ l -> ∃ j : Nat, l[j]? = some p /\ ∀ (m : Nat) (e : Nat × Nat), m < j -> l[m]? = some e -> e ≠ p := by
  intro h
  refine ⟨l.idxOf p, ?_, fun m e hm he z => ?_⟩
  · have := List.idxOf_lt_length_of_mem h
    rw [List.getElem?_eq_getElem this, List.getElem_idxOf this]
  · have := List.not_of_lt_findIdx (p := fun x => x == p) hm
    have hml := (List.getElem?_eq_some_iff.mp he).1
    rw [z] at he
    have e2 := (List.getElem?_eq_some_iff.mp he).2
    rw [e2] at this
    simp at this
theorem bring {α : Type} {l : List α} {i j : Nat} {x : α} (hij : i <= j) (hj : l[j]? = some x) : l = l.take i ++ (l.drop i).take (j - i) ++ x :: l.drop (j + 1) /\ (l.eraseIdx j).take i ++ x :: (l.eraseIdx j).drop i = l.take i ++ x :: (l.drop i).take (j - i) ++ l.drop (j + 1) := by
  have hjl := (List.getElem?_eq_some_iff.mp hj).1
  have e1 : l.drop j = x :: l.drop (j + 1) := by
    rw [List.drop_eq_getElem_cons hjl]
    congr 1
    exact (List.getElem?_eq_some_iff.mp hj).2
  have e2 : l.drop i = (l.drop i).take (j - i) ++ l.drop j := by
    have := (List.take_append_drop (j - i) (l.drop i)).symm
    rwa [List.drop_drop, show i + (j - i) = j by omega] at this
  have e3 : l = l.take i ++ (l.drop i).take (j - i) ++ x :: l.drop (j + 1) := by
    conv => lhs; rw [<- List.take_append_drop i l, e2, e1]
    rw [List.append_assoc]
  refine ⟨e3, ?_⟩
  have hlen : (l.take i ++ (l.drop i).take (j - i)).length = j := by rw [List.length_append, List.length_take, List.length_take, List.length_drop]; omega
  have e4 : l.eraseIdx j = l.take i ++ (l.drop i).take (j - i) ++ l.drop (j + 1) := by
    conv => lhs; rw [e3]
    rw [List.eraseIdx_append_of_length_le (by omega), hlen, Nat.sub_self]
    rfl
  rw [e4]
  have hti : (l.take i).length = i := by rw [List.length_take]; omega
  rw [List.append_assoc, List.take_append_of_le_length (by omega), List.take_of_length_le (by omega), List.drop_append_of_le_length (by omega), List.drop_of_length_le (by omega)]
  simp
theorem downK_snoc (place j : Nat) : downK place (j + 1) = downK place j ++ [place - 1 - j] := by unfold downK; rw [List.range_succ, List.map_append]; rfl
theorem downK_len (place j : Nat) : (downK place j).length = j := by unfold downK; rw [List.length_map, List.length_range]
theorem erase_map2 {α β : Type} (f : α -> β) : ∀ (l : List α) (i : Nat), (l.map f).eraseIdx i = (l.eraseIdx i).map f
  | [], _ => rfl
  | _ :: _, 0 => rfl
  | x :: l, i + 1 => by show f x :: (l.map f).eraseIdx i = f x :: (l.eraseIdx i).map f; rw [erase_map2 f l i]
noncomputable def brought (cur : List Pr) (i j : Nat) (p : Pr) : List Pr := (cur.eraseIdx j).take i ++ p :: (cur.eraseIdx j).drop i
theorem prv_brought (cur : List Pr) (i j : Nat) (p : Pr) : ((prv cur).eraseIdx j).take i ++ V.ref p.t :: ((prv cur).eraseIdx j).drop i = prv (brought cur i j p) := by
  unfold prv brought
  rw [erase_map2, List.map_append, List.map_cons, List.map_take, List.map_drop]
theorem pair_brought (cur : List Pr) (i j : Nat) (p : Pr) : (brought cur i j p).map Pr.pair = ((cur.map Pr.pair).eraseIdx j).take i ++ p.pair :: ((cur.map Pr.pair).eraseIdx j).drop i := by
  unfold brought
  rw [erase_map2, List.map_append, List.map_cons, List.map_take, List.map_drop]
theorem mem_brought {cur : List Pr} {i j : Nat} {p q : Pr} (hp : p ∈ cur) (h : q ∈ brought cur i j p) : q ∈ cur := by
  unfold brought at h
  rcases List.mem_append.mp h with g | g
  · exact List.mem_of_mem_eraseIdx (List.mem_of_mem_take g)
  · rcases List.mem_cons.mp g with g | g
    · rw [g]; exact hp
    · exact List.mem_of_mem_eraseIdx (List.mem_of_mem_drop g)
theorem mix_get {α : Type} {a b : List α} {j : Nat} {x : α} (ha : j <= a.length) (hb : b[j]? = some x) : (a.take j ++ b.drop j)[j]? = some x := by
  have hl : (a.take j).length = j := by rw [List.length_take]; omega
  rw [List.getElem?_append_right (by omega), hl, Nat.sub_self, List.getElem?_drop, Nat.add_zero]
  exact hb
theorem mix_set {α : Type} {a b : List α} {j : Nat} {x : α} (hb : j < b.length) (ha : a[j]? = some x) : (a.take j ++ b.drop j).set j x = a.take (j + 1) ++ b.drop (j + 1) := by
  have hj := (List.getElem?_eq_some_iff.mp ha).1
  have hl : (a.take j).length = j := by rw [List.length_take]; omega
  rw [List.set_append_right _ _ (by omega), hl, Nat.sub_self, List.drop_eq_getElem_cons hb, List.set_cons_zero, List.take_succ, ha]
  simp
theorem DsAt.ext {H0 H H1 : Hp} {t b : Addr} {ds es : List Dd} (h : DsAt H0 H t ds) (n : H0 t = none) (s : Same H H1) (he : ∀ x ∈ es, DeedAt H1 x.a x.e) : DsAt H0 (upd H1 t (.lst (ddv (ds ++ es)))) t (ds ++ es) := by
  have ht := s _ _ h.ls
  have tU := TSame.updL (o := HO.lst (ddv (ds ++ es))) ht
  refine ⟨upd_same, fun x hx => ?_, fun x o ex => by rw [upd_ne (ne_of_none ex n)]; exact s _ _ (h.sm _ _ ex)⟩
  rcases List.mem_append.mp hx with g | g
  · exact ((h.de x g).ts (TSame.of s)).ts tU
  · exact (he x g).ts tU
theorem odv_get {os : List Od} {i : Nat} {o : Od} (h : os[i]? = some o) : (odv os)[i]? = some (V.ref o.o) := by unfold odv; rw [List.getElem?_map, h]; rfl
theorem txs_get2 {ws : List (List Nat)} {i : Nat} {w : List Nat} (h : ws[i]? = some w) : (txs ws)[i]? = some (V.str (S w)) := by unfold txs; rw [List.getElem?_map, h]; rfl
noncomputable def sp_Lotherwise (_ : PySem.W.Frag) : Sp := fun vs H Q _ => ∃ (b : Addr) (y : List Nat) (wt : Addr) (ws : List (List Nat)), vs = [.ref b, .str (S y), .ref wt] /\ BoxAt H b /\ Yd y /\ y ≠ [] /\ y.length <= 8 /\ H wt = some (.tup (txs ws)) /\ WsOk y ws /\ ∀ (t : Addr) (ws' : List (List Nat)) (H' : Hp), H' t = some (.tup (txs ws')) -> WsOk y ws' -> BoxAt H' b -> SameB b H H' -> Q (.ref t) H'
theorem len_Lotherwise {K : PySem.W.Frag} {vs : List V} {H : Hp} {Q : VK} {E : XK} (h : sp_Lotherwise K vs H Q E) : vs.length = 3 := by obtain ⟨_, _, _, _, rfl, _⟩ := h; rfl
noncomputable def sp_Lright (_ : PySem.W.Frag) : Sp := fun vs H Q _ => ∃ (y : List Nat) (d e : Addr) (ws vs' : List (List Nat)) (os ps : List Od), vs = [.str (S y), .ref d, .ref e] /\ Yd y /\ y.length <= 8 /\ Good y ws (os.map prs) /\ Good y vs' (ps.map prs) /\ DrAt H d ws os /\ DrAt H e vs' ps /\ ∀ H', Same H H' -> Q (.bl true) H'
theorem len_Lright {K : PySem.W.Frag} {vs : List V} {H : Hp} {Q : VK} {E : XK} (h : sp_Lright K vs H Q E) : vs.length = 3 := by obtain ⟨_, _, _, _, _, _, _, rfl, _⟩ := h; rfl
theorem cut_txs2 (l : List (List Nat)) (lo hi : Option Int) : cutV (txs l) lo hi = txs (cut l lo hi) := by unfold txs cutV cut; rw [List.length_map, <- List.map_drop, <- List.map_take]
theorem txs_cat (a b : List (List Nat)) : txs a ++ txs b = txs (a ++ b) := by unfold txs; rw [List.map_append]
theorem cut_next {α : Type} (l : List α) (k : Nat) : cut l (some ((k : Int) + 1)) none = l.drop (k + 1) := cut_from l (k + 1)
theorem ite_dup {c : Bool} {A B : Prop} (hB : B) (hA : c = true -> B -> A) : if c = true then A else B := by
  cases c
  · exact iteF hB
  · exact iteT (hA rfl hB)
noncomputable def drD (ws : List (List Nat)) (L : Ords) : PyData := .tuple [.tuple (tds ws), .tuple (L.map fun l => .tuple (l.map prD))]
theorem od_data (os : List Od) : os.map odD = (os.map prs).map fun l => PyData.tuple (l.map prD) := by rw [List.map_map]; rfl
theorem rd_dr {K : PySem.W.Frag} {H : Hp} {dr : Addr} {ws : List (List Nat)} {os : List Od} (h : DrAt H dr ws os) : RdD K H (.ref dr) (drD ws (os.map prs)) := by
  obtain ⟨⟨wt, ot, h1, h2, h3⟩, hO⟩ := h
  unfold drD
  rw [<- od_data]
  exact .tup (SqT.of h1) (.cons (.tup (SqT.of h2) (rdds_txs _)) (.cons (.tup (SqT.of h3) (rdds_ods hO)) .nil))
theorem sm_dr2 {y : List Nat} {H : Hp} {dr : Addr} {ws : List (List Nat)} {os : List Od} (hy : Yd y) (hz : y.length <= 8) (h : DrAt H dr ws os) (g : Good y ws (os.map prs)) : SmD 40 100000 (drD ws (os.map prs)) := by
  unfold drD
  rw [<- od_data]
  have hbl := bsOf_len hy
  have hl := g.ln
  rw [List.length_map] at hl
  exact sm_dr (fun w hw => ⟨fun c hc => (hy.lt c ((g.all12 w hw).1 c hc)).lt, (g.all12 w hw).2⟩) g.few h.od (by omega)
theorem dict_ls : ∀ L : Ords, PyData.hasDictAll (L.map fun l => PyData.tuple (l.map prD)) = false
  | [] => rfl
  | l :: L => by show (PyData.hasDictAll (l.map prD) || PyData.hasDictAll (L.map _)) = false; rw [dict_prs l, dict_ls L]; rfl
theorem dict_tds : ∀ ws : List (List Nat), PyData.hasDictAll (tds ws) = false
  | [] => rfl
  | w :: ws => by show (PyData.hasDict (.str _) || PyData.hasDictAll (tds ws)) = false; rw [dict_tds ws]; rfl
theorem dict_dr (ws : List (List Nat)) (L : Ords) : (drD ws L).hasDict = false := by
  show (PyData.hasDictAll (tds ws) || (PyData.hasDictAll (L.map _) || false)) = false
  rw [dict_tds, dict_ls]; rfl
theorem eqv_tds : ∀ a b : List (List Nat), PyData.eqvAll (tds a) (tds b) = decide (a = b)
  | [], [] => by simp [tds, PyData.eqvAll]
  | [], y :: b => by simp [tds, PyData.eqvAll]
  | x :: a, [] => by simp [tds, PyData.eqvAll]
  | x :: a, y :: b => by
    show (PyData.eqv (.str (S x)) (.str (S y)) && PyData.eqvAll (tds a) (tds b)) = _
    rw [eqv_tds a b]
    have e : PyData.eqv (.str (S x)) (.str (S y)) = decide (x = y) := by
      show (S x == S y) = _
      by_cases g : x = y
      · rw [g]; simp
      · rw [decide_eq_false g]
        exact beq_eq_false_iff_ne.mpr fun z => g (S_inj z)
    rw [e]
    by_cases g : x = y <;> by_cases h : a = b <;> simp [g, h]
theorem road_cases {H : Hp} {Q : VK} {y : List Nat} {ws vs' : List (List Nat)} {os ps : List Od}
    (key : ∀ (fv : V) (H1 : Hp), Same H H1 -> (ws.map ringM ≠ vs'.map ringM /\ fv = .non \/ ws.map ringM = vs'.map ringM /\ ∃ (t : Addr) (ds : List Dd), fv = .ref t /\ H1 t = some (.lst (ddv ds)) /\ (∀ x ∈ ds, DeedAt H1 x.a x.e) /\ Path y ws (os.map prs) (ds.map Dd.e) /\ runD y ws (os.map prs) (ds.map Dd.e) = (vs', ps.map prs) /\ ds.length <= 50000) -> Q fv H1) :
    (ws.map ringM ≠ vs'.map ringM -> ∀ H', Same H H' -> Q .non H') /\ (ws.map ringM = vs'.map ringM -> TellsD H Q (fun es => Path y ws (os.map prs) es /\ runD y ws (os.map prs) es = (vs', ps.map prs)) 50000) :=
  ⟨fun hne H' s => key .non H' s (.inl ⟨hne, rfl⟩), fun heq t ds H' nt ht hde hP hl s => key (.ref t) H' s (.inr ⟨heq, t, ds, rfl, ht, hde, hP.1, hP.2, hl⟩)⟩
noncomputable def top (i : Nat) : Stmt := PySem.Challenge.pw_mustmeet_k24_no_road.main.body.getD i (.Pass ⟨0, 0, 0, 0⟩)
noncomputable abbrev s_contrary : Stmt := top 4
noncomputable abbrev s_bands : Stmt := top 6
noncomputable abbrev s_renumber : Stmt := top 8
noncomputable abbrev s_do_swap : Stmt := top 9
noncomputable abbrev s_do_out : Stmt := top 10
noncomputable abbrev s_do_in : Stmt := top 11
noncomputable abbrev s_do_turn : Stmt := top 12
noncomputable abbrev s_do_deed : Stmt := top 13
noncomputable abbrev s_done : Stmt := top 14
noncomputable abbrev s_shortened : Stmt := top 16
noncomputable abbrev s_shortest : Stmt := top 17
noncomputable abbrev s_ring : Stmt := top 18
noncomputable abbrev s_are_one : Stmt := top 19
noncomputable abbrev s_pairs_out : Stmt := top 21
noncomputable abbrev s_way_down : Stmt := top 22
noncomputable abbrev s_way_up : Stmt := top 23
noncomputable abbrev s_turns_between : Stmt := top 24
noncomputable abbrev s_word_road : Stmt := top 25
noncomputable abbrev s_order_road : Stmt := top 26
noncomputable abbrev s_same_cords : Stmt := top 27
noncomputable abbrev s_road : Stmt := top 28
noncomputable abbrev s_Lbox : Stmt := top 30
noncomputable abbrev s_Ltake : Stmt := top 31
noncomputable abbrev s_Lother : Stmt := top 32
noncomputable abbrev s_Lyard : Stmt := top 33
noncomputable abbrev s_Lword : Stmt := top 34
noncomputable abbrev s_Lorder : Stmt := top 35
noncomputable abbrev s_Lbands : Stmt := top 36
noncomputable abbrev s_Ldrawing : Stmt := top 37
noncomputable abbrev s_Lwords : Stmt := top 38
noncomputable abbrev s_Lring : Stmt := top 39
noncomputable abbrev s_Lotherwise : Stmt := top 40
noncomputable abbrev s_Lright : Stmt := top 41
noncomputable abbrev s_law : Stmt := top 42
structure FunAt (K : PySem.W.Frag) (mg : Str -> Option Value) (x : Str) (st : Stmt) (ps : List Str) (f : Addr) (fd : FuncData) : Prop where
  fn : Fun K x x st f fd
  mg : mg x = some (.ref f)
  bd : Binds K fd ps []
structure Txt (K : PySem.W.Frag) (mg : Str -> Option Value) (f0 f1 f2 f3 f4 f5 f6 f7 f8 f9 f10 f11 f12 f13 f14 f15 f16 f17 f18 f19 f20 f21 f22 f23 f24 f25 f26 f27 f28 f29 f30 f31 f32 f33 : Addr) (d0 d1 d2 d3 d4 d5 d6 d7 d8 d9 d10 d11 d12 d13 d14 d15 d16 d17 d18 d19 d20 d21 d22 d23 d24 d25 d26 d27 d28 d29 d30 d31 d32 d33 : FuncData) : Prop where
  F0 : FunAt K mg "contrary" s_contrary ["letter"] f0 d0
  F1 : FunAt K mg "bands" s_bands ["yard"] f1 d1
  F2 : FunAt K mg "renumber" s_renumber ["orders", "cord", "places"] f2 d2
  F3 : FunAt K mg "do_swap" s_do_swap ["orders", "band", "number"] f3 d3
  F4 : FunAt K mg "do_out" s_do_out ["words", "orders", "cord", "place"] f4 d4
  F5 : FunAt K mg "do_in" s_do_in ["words", "orders", "cord", "place", "letter", "number"] f5 d5
  F6 : FunAt K mg "do_turn" s_do_turn ["words", "orders", "cord"] f6 d6
  F7 : FunAt K mg "do_deed" s_do_deed ["yard", "words", "orders", "deed"] f7 d7
  F8 : FunAt K mg "done" s_done ["yard", "drawing", "deeds"] f8 d8
  F9 : FunAt K mg "shortened" s_shortened ["word"] f9 d9
  F10 : FunAt K mg "shortest" s_shortest ["word"] f10 d10
  F11 : FunAt K mg "ring" s_ring ["word"] f11 d11
  F12 : FunAt K mg "are_one" s_are_one ["one", "other"] f12 d12
  F13 : FunAt K mg "pairs_out" s_pairs_out ["word"] f13 d13
  F14 : FunAt K mg "way_down" s_way_down ["cord", "word"] f14 d14
  F15 : FunAt K mg "way_up" s_way_up ["cord", "word"] f15 d15
  F16 : FunAt K mg "turns_between" s_turns_between ["one", "other"] f16 d16
  F17 : FunAt K mg "word_road" s_word_road ["cord", "one", "other"] f17 d17
  F18 : FunAt K mg "order_road" s_order_road ["band", "one", "other"] f18 d18
  F19 : FunAt K mg "same_cords" s_same_cords ["one", "other"] f19 d19
  F20 : FunAt K mg "road" s_road ["yard", "one", "other"] f20 d20
  F21 : FunAt K mg "_law_box" s_Lbox ["_law_script", "_law_k"] f21 d21
  F22 : FunAt K mg "_law_take" s_Ltake ["_law_box_here", "_law_many"] f22 d22
  F23 : FunAt K mg "_law_other" s_Lother ["_law_letter"] f23 d23
  F24 : FunAt K mg "_law_yard" s_Lyard ["_law_box_here", "_law_few", "_law_top"] f24 d24
  F25 : FunAt K mg "_law_word" s_Lword ["_law_box_here", "_law_yard_here", "_law_top"] f25 d25
  F26 : FunAt K mg "_law_order" s_Lorder ["_law_box_here", "_law_things"] f26 d26
  F27 : FunAt K mg "_law_bands" s_Lbands ["_law_yard_here"] f27 d27
  F28 : FunAt K mg "_law_drawing" s_Ldrawing ["_law_box_here", "_law_yard_here", "_law_words_here"] f28 d28
  F29 : FunAt K mg "_law_words" s_Lwords ["_law_box_here", "_law_yard_here"] f29 d29
  F30 : FunAt K mg "_law_ring" s_Lring ["_law_word_here"] f30 d30
  F31 : FunAt K mg "_law_otherwise" s_Lotherwise ["_law_box_here", "_law_yard_here", "_law_words_here"] f31 d31
  F32 : FunAt K mg "_law_right" s_Lright ["_law_yard_here", "_law_one", "_law_other_here"] f32 d32
  F33 : FunAt K mg "law" s_law ["_law_script"] f33 d33
  z_all : mg "all" = none
  z_enumerate : mg "enumerate" = none
  z_int : mg "int" = none
  z_isinstance : mg "isinstance" = none
  z_len : mg "len" = none
  z_list : mg "list" = none
  z_max : mg "max" = none
  z_min : mg "min" = none
  z_range : mg "range" = none
  z_reversed : mg "reversed" = none
  z_sorted : mg "sorted" = none
  z_tuple : mg "tuple" = none
  z_zip : mg "zip" = none
theorem sc_contrary : FnScope ["letter"] ["letter"] (defScope s_contrary) := ⟨rfl, rfl, rfl, by decide +kernel, rfl, by decide +kernel, by decide +kernel⟩
theorem sc_bands : FnScope ["yard"] ["yard"] (defScope s_bands) := ⟨rfl, rfl, rfl, by decide +kernel, rfl, by decide +kernel, by decide +kernel⟩
theorem sc_renumber : FnScope ["orders", "cord", "places", "band", "kept", "strand"] ["orders", "cord", "places"] (defScope s_renumber) := ⟨rfl, rfl, rfl, by decide +kernel, rfl, by decide +kernel, by decide +kernel⟩
theorem sc_do_swap : FnScope ["orders", "band", "number", "order", "strand"] ["orders", "band", "number"] (defScope s_do_swap) := ⟨rfl, rfl, rfl, by decide +kernel, rfl, by decide +kernel, by decide +kernel⟩
theorem sc_do_out : FnScope ["words", "orders", "cord", "place", "word"] ["words", "orders", "cord", "place"] (defScope s_do_out) := ⟨rfl, rfl, rfl, by decide +kernel, rfl, by decide +kernel, by decide +kernel⟩
theorem sc_do_in : FnScope ["words", "orders", "cord", "place", "letter", "number", "word", "order"] ["words", "orders", "cord", "place", "letter", "number"] (defScope s_do_in) := ⟨rfl, rfl, rfl, by decide +kernel, rfl, by decide +kernel, by decide +kernel⟩
theorem sc_do_turn : FnScope ["words", "orders", "cord", "word"] ["words", "orders", "cord"] (defScope s_do_turn) := ⟨rfl, rfl, rfl, by decide +kernel, rfl, by decide +kernel, by decide +kernel⟩
theorem sc_do_deed : FnScope ["yard", "words", "orders", "deed"] ["yard", "words", "orders", "deed"] (defScope s_do_deed) := ⟨rfl, rfl, rfl, by decide +kernel, rfl, by decide +kernel, by decide +kernel⟩
theorem sc_done : FnScope ["yard", "drawing", "deeds", "words", "orders", "band", "order", "number", "deed"] ["yard", "drawing", "deeds"] (defScope s_done) := ⟨rfl, rfl, rfl, by decide +kernel, rfl, by decide +kernel, by decide +kernel⟩
theorem sc_shortened : FnScope ["word", "kept", "letter"] ["word"] (defScope s_shortened) := ⟨rfl, rfl, rfl, by decide +kernel, rfl, by decide +kernel, by decide +kernel⟩
theorem sc_shortest : FnScope ["word", "left", "start", "end"] ["word"] (defScope s_shortest) := ⟨rfl, rfl, rfl, by decide +kernel, rfl, by decide +kernel, by decide +kernel⟩
theorem sc_ring : FnScope ["word", "whole", "least", "start", "begun"] ["word"] (defScope s_ring) := ⟨rfl, rfl, rfl, by decide +kernel, rfl, by decide +kernel, by decide +kernel⟩
theorem sc_are_one : FnScope ["one", "other"] ["one", "other"] (defScope s_are_one) := ⟨rfl, rfl, rfl, by decide +kernel, rfl, by decide +kernel, by decide +kernel⟩
theorem sc_pairs_out : FnScope ["word", "taken", "place"] ["word"] (defScope s_pairs_out) := ⟨rfl, rfl, rfl, by decide +kernel, rfl, by decide +kernel, by decide +kernel⟩
theorem sc_way_down : FnScope ["cord", "word", "deeds", "size"] ["cord", "word"] (defScope s_way_down) := ⟨rfl, rfl, rfl, by decide +kernel, rfl, by decide +kernel, by decide +kernel⟩
theorem sc_way_up : FnScope ["cord", "word", "deeds", "left", "letter", "pair"] ["cord", "word"] (defScope s_way_up) := ⟨rfl, rfl, rfl, by decide +kernel, rfl, by decide +kernel, by decide +kernel⟩
theorem sc_turns_between : FnScope ["one", "other", "turns"] ["one", "other"] (defScope s_turns_between) := ⟨rfl, rfl, rfl, by decide +kernel, rfl, by decide +kernel, by decide +kernel⟩
theorem sc_word_road : FnScope ["cord", "one", "other", "turns"] ["cord", "one", "other"] (defScope s_word_road) := ⟨rfl, rfl, rfl, by decide +kernel, rfl, by decide +kernel, by decide +kernel⟩
theorem sc_order_road : FnScope ["band", "one", "other", "deeds", "order", "number", "strand", "place", "back"] ["band", "one", "other"] (defScope s_order_road) := ⟨rfl, rfl, rfl, by decide +kernel, rfl, by decide +kernel, by decide +kernel⟩
theorem sc_same_cords : FnScope ["one", "other"] ["one", "other"] (defScope s_same_cords) := ⟨rfl, rfl, rfl, by decide +kernel, rfl, by decide +kernel, by decide +kernel⟩
theorem sc_road : FnScope ["yard", "one", "other", "deeds", "cord", "word", "between", "number", "band"] ["yard", "one", "other"] (defScope s_road) := ⟨rfl, rfl, rfl, by decide +kernel, rfl, by decide +kernel, by decide +kernel⟩
theorem sc_Lbox : FnScope ["_law_script", "_law_k", "_law_cell", "_law_seed"] ["_law_script", "_law_k"] (defScope s_Lbox) := ⟨rfl, rfl, rfl, by decide +kernel, rfl, by decide +kernel, by decide +kernel⟩
theorem sc_Ltake : FnScope ["_law_box_here", "_law_many", "_law_digit", "_law_one"] ["_law_box_here", "_law_many"] (defScope s_Ltake) := ⟨rfl, rfl, rfl, by decide +kernel, rfl, by decide +kernel, by decide +kernel⟩
theorem sc_Lother : FnScope ["_law_letter", "_law_small", "_law_capital"] ["_law_letter"] (defScope s_Lother) := ⟨rfl, rfl, rfl, by decide +kernel, rfl, by decide +kernel, by decide +kernel⟩
theorem sc_Lyard : FnScope ["_law_box_here", "_law_few", "_law_top", "_law_left", "_law_ends", "_law_k", "_law_letter", "_law_found"] ["_law_box_here", "_law_few", "_law_top"] (defScope s_Lyard) := ⟨rfl, rfl, rfl, by decide +kernel, rfl, by decide +kernel, by decide +kernel⟩
theorem sc_Lword : FnScope ["_law_box_here", "_law_yard_here", "_law_top"] ["_law_box_here", "_law_yard_here", "_law_top"] (defScope s_Lword) := ⟨rfl, rfl, rfl, by decide +kernel, rfl, by decide +kernel, by decide +kernel⟩
theorem sc_Lorder : FnScope ["_law_box_here", "_law_things", "_law_left", "_law_found"] ["_law_box_here", "_law_things"] (defScope s_Lorder) := ⟨rfl, rfl, rfl, by decide +kernel, rfl, by decide +kernel, by decide +kernel⟩
theorem sc_Lbands : FnScope ["_law_yard_here"] ["_law_yard_here"] (defScope s_Lbands) := ⟨rfl, rfl, rfl, by decide +kernel, rfl, by decide +kernel, by decide +kernel⟩
theorem sc_Ldrawing : FnScope ["_law_box_here", "_law_yard_here", "_law_words_here", "_law_orders", "_law_band", "_law_some", "_law_c", "_law_word_here"] ["_law_box_here", "_law_yard_here", "_law_words_here"] (defScope s_Ldrawing) := ⟨rfl, rfl, rfl, by decide +kernel, rfl, by decide +kernel, by decide +kernel⟩
theorem sc_Lwords : FnScope ["_law_box_here", "_law_yard_here", "_law_left", "_law_found", "_law_k", "_law_word_here"] ["_law_box_here", "_law_yard_here"] (defScope s_Lwords) := ⟨rfl, rfl, rfl, by decide +kernel, rfl, by decide +kernel, by decide +kernel⟩
theorem sc_Lring : FnScope ["_law_word_here", "_law_left", "_law_letter"] ["_law_word_here"] (defScope s_Lring) := ⟨rfl, rfl, rfl, by decide +kernel, rfl, by decide +kernel, by decide +kernel⟩
theorem sc_Lotherwise : FnScope ["_law_box_here", "_law_yard_here", "_law_words_here", "_law_form", "_law_c", "_law_word_here", "_law_at", "_law_letter", "_law_d", "_law_other_here"] ["_law_box_here", "_law_yard_here", "_law_words_here"] (defScope s_Lotherwise) := ⟨rfl, rfl, rfl, by decide +kernel, rfl, by decide +kernel, by decide +kernel⟩
theorem sc_Lright : FnScope ["_law_yard_here", "_law_one", "_law_other_here", "_law_found"] ["_law_yard_here", "_law_one", "_law_other_here"] (defScope s_Lright) := ⟨rfl, rfl, rfl, by decide +kernel, rfl, by decide +kernel, by decide +kernel⟩
theorem sc_law : FnScope ["_law_script", "_law_box_here", "_law_yard_here", "_law_words_here", "_law_one", "_law_k", "_law_other_here"] ["_law_script"] (defScope s_law) := ⟨rfl, rfl, rfl, by decide +kernel, rfl, by decide +kernel, by decide +kernel⟩
section
variable {P : Program} {w : World} {K : PySem.W.Frag} {mg : Str -> Option Value} {base : Heap} {f0 f1 f2 f3 f4 f5 f6 f7 f8 f9 f10 f11 f12 f13 f14 f15 f16 f17 f18 f19 f20 f21 f22 f23 f24 f25 f26 f27 f28 f29 f30 f31 f32 f33 : Addr} {d0 d1 d2 d3 d4 d5 d6 d7 d8 d9 d10 d11 d12 d13 d14 d15 d16 d17 d18 d19 d20 d21 d22 d23 d24 d25 d26 d27 d28 d29 d30 d31 d32 d33 : FuncData}
variable (T : Txt K mg f0 f1 f2 f3 f4 f5 f6 f7 f8 f9 f10 f11 f12 f13 f14 f15 f16 f17 f18 f19 f20 f21 f22 f23 f24 f25 f26 f27 f28 f29 f30 f31 f32 f33 d0 d1 d2 d3 d4 d5 d6 d7 d8 d9 d10 d11 d12 d13 d14 d15 d16 d17 d18 d19 d20 d21 d22 d23 d24 d25 d26 d27 d28 d29 d30 d31 d32 d33)
include T
theorem ok_renumber : FnOk P w K mg base CX0 1 f2 d2 ["orders", "cord", "places"] (sp_renumber K) := by
  refine T.F2.fn.ok sc_renumber (fun vs H Q E h => len_renumber h) (fun cdv A outer s H vs Q E hr h => ?_)
  refine ⟨_, (pss_one (ps_for PassesOwn.never rfl (pi_listK K rfl (pe_callTy (call_listD rfl) rfl T.z_list boot_list (pa_cons (pv 0) pa_nil))) (pg_name (i := 3) sc_renumber.nd rfl (Or.inl rfl)) (pss_cons (ps_set (i := 4) sc_renumber.nd rfl (Or.inl rfl) (pe_lst pa_nil))
      (pss_cons (ps_for PassesOwn.never rfl (pi_listK K rfl (pe_dget (hu_of hr) (pv 0) (pv 3) (fun _ _ => rfl))) (pg_name (i := 5) sc_renumber.nd rfl (Or.inl rfl)) (pss_one (ps_if (pt_cmpR op_neI (pe_ix (ix_tupK K rfl) (pv 5) pe_int (fun _ _ => rfl)) (pv 1) (nomark _)) (pss_one (ps_expr (pe_bmK K rfl PySem.F.plainAttrs_list PySem.F.slot_list_append PySem.F.type_list_append mt_append (pv 4) (pa_cons (pv 5) pa_nil)))) (pss_one (ps_if (pt_cmpR op_notN (pe_ix (ix_listK K rfl) (pv 2) (pe_ix (ix_tupK K rfl) (pv 5) pe_int (fun _ _ => rfl)) (fun _ _ => rfl)) pe_non (nomark _)) (pss_one (ps_expr (pe_bmK K rfl PySem.F.plainAttrs_list PySem.F.slot_list_append PySem.F.type_list_append mt_append (pv 4) (pa_cons (pe_tup (pa_cons (pv 1) (pa_cons (pe_ix (ix_listK K rfl) (pv 2) (pe_ix (ix_tupK K rfl) (pv 5) pe_int (fun _ _ => rfl)) (fun _ _ => rfl)) pa_nil))) pa_nil)))) pss_nil)))))
      (pss_one (ps_dput (hu_of hr) (pv 0) (pv 3) (pv 4) rfl)))))), ?_⟩
  obtain ⟨d, c, pp, bs, os, xs, f, rfl, hO, nd, hbl, hc, hpp, hx, hf, q⟩ := h
  have hs : (100000 : Nat) < sizeLine := by decide
  have hln := hO.ln
  refine ⟨_, rfl, d, _, rfl, hO.dk, by rw [ordK_len hln]; omega, fun lp nl => ?_⟩
  rw [ordK_keys hln]
  have sL := Same.upd (o := HO.lst (sgs bs)) nl
  have hlp : upd H lp (HO.lst (sgs bs)) lp = some (HO.lst (sgs bs)) := upd_same
  have hO1 := hO.same sL
  have hpp1 := sL _ _ hpp
  have hlpd : lp ≠ d := Ne.symm (ne_of_none hO.dk nl)
  generalize upd H lp (HO.lst (sgs bs)) = H1 at sL hlp hO1 hpp1 ⊢
  have hppd : pp ≠ d := fun z => by rw [z, hO1.dk] at hpp1; cases hpp1
  refine ⟨lp, rfl, ⟨_, SqL.of hlp⟩, ?_⟩
  refine for_list (K := K) (a := lp) (xs := sgs bs) (fun i σ H' => ∃ (bv kv sv : Option V) (cur : List Od), σ = [some (.ref d), some (.int c), some (.ref pp), bv, kv, sv] /\ cur.length = os.length /\ OrdAt H' d bs cur /\ cur.drop i = os.drop i /\ (cur.take i).map prs = (os.take i).map (fun o => renM c f (prs o)) /\ (∀ o ∈ cur.take i, H1 o.o = none) /\ SameB d H1 H')
    ⟨none, none, none, os, rfl, rfl, hO1, rfl, rfl, by simp, SameB.refl _ _⟩ (fun i σ H' _ ⟨_, _, _, _, _, _, _, _, _, _, s⟩ => SqL.of (s _ _ hlp hlpd)) ?_ ?_
  · rintro i x σ H2 hxi ⟨bv, kv, sv, cur, rfl, hcl, hO2, hdr, htk, hfr, s2⟩
    obtain ⟨b, hb, rfl⟩ := sgs_get hxi
    have hi : i < bs.length := (List.getElem?_eq_some_iff.mp hb).1
    have hic : i < cur.length := by omega
    have hio : i < os.length := by omega
    have hcur : cur[i]? = some os[i] := by
      have e := congrArg (fun l => l[0]?) hdr
      simp only [List.getElem?_drop, Nat.add_zero] at e
      rw [e, List.getElem?_eq_getElem hio]
    have hom : os[i] ∈ os := List.getElem_mem hio
    have hocm : os[i] ∈ cur := List.mem_of_getElem? hcur
    generalize hoi : os[i] = o at hcur hom hocm
    have hoO := hO2.ok o hocm
    have hod := hO2.ne hocm
    have hpp2 := s2 _ _ hpp1 hppd
    refine ⟨by show 0 <= sizeLine; decide, fun p5 n5 => ?_⟩
    have s5 := Same.upd (o := HO.lst []) n5
    have h5 : upd H2 p5 (HO.lst []) p5 = some (HO.lst []) := upd_same
    have hO5 := hO2.same s5
    have hoO5 := hoO.same s5
    have hpp5 := s5 _ _ hpp2
    have h5o : o.o ≠ p5 := ne_of_none hoO.tp n5
    have h5p : pp ≠ p5 := ne_of_none hpp2 n5
    generalize upd H2 p5 (HO.lst []) = H5 at s5 h5 hO5 hoO5 hpp5 ⊢
    refine ⟨_, rfl, _, rfl, d, .ref o.o, rfl, by rw [<- ordK_get nd hb hcur]; exact DGet.k (k := kS [b]) hO5.dk, o.o, rfl, ⟨_, SqL.of hoO5.tp⟩, ?_⟩
    refine for_list (K := K) (a := o.o) (xs := prv o.ps) (fun j σ H' => ∃ (sv : Option V) (us : List Pr), σ = [some (.ref d), some (.int c), some (.ref pp), some (.str (S [b])), some (.ref p5), sv] /\ H' p5 = some (.lst (prv us)) /\ (∀ u ∈ us, PrOk H' u) /\ us.map Pr.pair = renM c f ((o.ps.take j).map Pr.pair) /\ us.length <= j /\ SameB p5 H5 H')
      ⟨sv, [], rfl, h5, by simp, rfl, Nat.zero_le _, SameB.refl _ _⟩ (fun j σ H' _ ⟨_, _, _, _, _, _, _, s⟩ => SqL.of (s _ _ hoO5.tp h5o)) ?_ ?_
    · rintro j x σ H6 hxj ⟨sv, us, rfl, hp6, hus, hue, hul, s6⟩
      obtain ⟨p, hpj, rfl⟩ := prv_at hxj
      have hpm := List.mem_of_getElem? hpj
      have hj : j < o.ps.length := (List.getElem?_eq_some_iff.mp hpj).1
      have hfw := hoO.fw
      have hp5' := hoO5.pr p hpm
      have htne : p.t ≠ p5 := fun z => by have := hp5'.tp; rw [z, h5] at this; cases this
      have tp6 := s6 _ _ hp5'.tp htne
      have es : renM c f ((o.ps.take (j + 1)).map Pr.pair) = renM c f ((o.ps.take j).map Pr.pair) ++ (ren1 c f p.pair).toList := by
        rw [<- take_snoc hpj, List.map_append]
        exact renM_snoc _ _ _ _
      have tU : ∀ {y : List V}, TSame H6 (upd H6 p5 (.lst y)) := fun {y} => TSame.updL hp6
      have sU : ∀ {y : List V}, SameB p5 H5 (upd H6 p5 (.lst y)) := fun {y} a u ea z => by rw [upd_ne z]; exact s6 a u ea z
      refine ⟨_, rfl, p.t, _, 0, _, rfl, rfl, SqT.of tp6, rfl, _, rfl, _, _, rfl, rfl, _, rfl, ite2 (fun z => ?_) (fun z => ?_)⟩
      · have z' : ¬ p.c = c := fun e => by
          have z2 : (!decide ((p.c : Int) = (c : Int))) = true := z
          rw [decide_eq_true (by omega)] at z2; cases z2
        have er : ren1 c f p.pair = some p.pair := if_neg z'
        refine ⟨_, rfl, .inl ⟨rfl, _, SqL.of hp6⟩, _, rfl, p5, _, _, rfl, rfl, hp6, by rw [prv_len]; omega, ?_⟩
        refine ⟨_, us ++ [p], rfl, by rw [upd_same, prv_snoc], fun u hu => ?_, by rw [List.map_append, hue, es, er]; rfl, by rw [List.length_append, List.length_singleton]; omega, sU⟩
        rcases List.mem_append.mp hu with g | g
        · exact (hus u g).ts tU
        · rw [List.mem_singleton.mp g]; exact (⟨tp6, hp5'.cz, hp5'.iz⟩ : PrOk H6 p).ts tU
      · have z' : p.c = c := by
          have z2 : ¬ (!decide ((p.c : Int) = (c : Int))) = true := z
          by_cases e : p.c = c
          · exact e
          · rw [decide_eq_false (by omega)] at z2; exact absurd rfl z2
        have hxp := hx o hom p hpm z'
        have hpp6 := s6 _ _ hpp5 h5p
        have er : ren1 c f p.pair = (f p.i).map fun j => (c, j) := if_pos z'
        refine ⟨_, rfl, _, rfl, p.t, _, 1, _, rfl, rfl, SqT.of tp6, rfl, pp, _, _, _, rfl, rfl, SqL.of hpp6, atI_nat hxp, rfl, _, rfl, ?_⟩
        cases hfi : f p.i with
        | none =>
          refine iteN (by rfl) ?_
          refine ⟨_, us, rfl, hp6, hus, by rw [es, er, hfi, hue]; simp, by omega, s6⟩
        | some k =>
          rw [hfi] at hxp
          have hk := hf o hom p hpm z' k hfi
          refine iteY (by rfl) ?_
          refine ⟨_, rfl, .inl ⟨rfl, _, SqL.of hp6⟩, _, rfl, _, rfl, _, rfl, p.t, _, 1, _, rfl, rfl, SqT.of tp6, rfl, pp, _, _, _, rfl, rfl, SqL.of hpp6, atI_nat hxp, by show 2 <= sizeLine; decide, fun t nt => ?_⟩
          have st := Same.upd (o := HO.tup [V.int c, V.int (k : Nat)]) nt
          have hp7 := st _ _ hp6
          refine ⟨p5, _, _, rfl, rfl, hp7, by rw [prv_len]; omega, ?_⟩
          have tU7 := TSame.updL (o := HO.lst (prv us ++ [V.ref t])) hp7
          refine ⟨_, us ++ [⟨t, c, k⟩], rfl, by rw [upd_same]; exact congrArg (fun x => some (HO.lst x)) (prv_snoc us ⟨t, c, k⟩), fun u hu => ?_, by rw [List.map_append, hue, es, er, hfi]; rfl, by rw [List.length_append, List.length_singleton]; omega, fun a u ea z => by rw [upd_ne z]; exact st _ _ (s6 a u ea z)⟩
          rcases List.mem_append.mp hu with g | g
          · exact (hus u g).ts ((TSame.of st).trans tU7)
          · rw [List.mem_singleton.mp g]; exact ⟨tU7 _ _ upd_same, hc, hk⟩
    · rintro σ H6 ⟨sv, us, rfl, hp6, hus, hue, hul, s6⟩
      rw [prv_len, List.take_length] at hue
      rw [prv_len] at hul
      have hfw := hoO.fw
      have hd5 : p5 ≠ d := Ne.symm (ne_of_none hO2.dk n5)
      have t56 : TSame H5 H6 := fun a ys e => s6 a _ e fun z => by rw [z, h5] at e; cases e
      have hne : ∀ o' ∈ cur, o'.o ≠ p5 := fun o' ho' => ne_of_none (hO2.ok o' ho').tp n5
      have hO6 : OrdAt H6 d bs cur := ⟨s6 _ _ hO5.dk (Ne.symm hd5), hO5.ln, hO5.nd, fun o' ho' => (hO5.ok o' ho').sameB s6 (hne o' ho') t56⟩
      have new := hO6.put nd hb (o' := ⟨p5, us⟩) ⟨hp6, hus, by show us.length <= 100; omega⟩ hd5 hne
      refine ⟨_, rfl, _, rfl, _, rfl, d, _, rfl, DPut.k (k := kS [b]) hO6.dk (by rw [ordK_len hO6.ln]; omega), ?_⟩
      have hos : os[i]? = some o := by rw [List.getElem?_eq_getElem hio, hoi]
      refine ⟨_, _, _, cur.set i ⟨p5, us⟩, rfl, by rw [List.length_set]; exact hcl, new, ?_, ?_, fun o' ho' => ?_, fun a u ea z => ?_⟩
      · rw [set_drop]
        have := congrArg (List.drop 1) hdr
        rw [List.drop_drop, List.drop_drop] at this
        exact this
      · rw [set_take _ _ _ hic, List.map_append, htk, <- take_snoc hos, List.map_append]
        show _ ++ [us.map Pr.pair] = _ ++ [renM c f (prs o)]
        rw [hue]
        rfl
      · rw [set_take _ _ _ hic] at ho'
        rcases List.mem_append.mp ho' with g | g
        · exact hfr o' g
        · rw [List.mem_singleton.mp g]; exact s2.none n5 hd5
      · rw [upd_ne z]
        have ez := s2 a u ea z
        exact s6 _ _ (s5 _ _ ez) (ne_of_none ez n5)
  · rintro σ H2 ⟨bv, kv, sv, cur, rfl, hcl, hO2, hdr, htk, hfr, s2⟩
    rw [sgs_len, <- hln] at htk hfr
    rw [<- hcl, List.take_length] at hfr
    rw [List.take_length, <- hcl, List.take_length] at htk
    exact q cur H2 hO2 htk (fun o ho => Same.free sL (hfr o ho)) (fun a u ea z => s2 a u (sL a u ea) z)
theorem ok_do_turn : FnOk P w K mg base CX0 2 f6 d6 ["words", "orders", "cord"] (sp_do_turn K) := by
  have G_renumber := ok_renumber (P := P) (w := w) (base := base) T
  refine T.F6.fn.ok sc_do_turn (fun vs H Q E h => len_do_turn h) (fun cdv A outer s H vs Q E hr h => ?_)
  refine ⟨_, (pss_cons (ps_set (i := 3) sc_do_turn.nd rfl (Or.inl rfl) (pe_ix (ix_listK K rfl) (pv 0) (pv 2) (fun _ _ => rfl)))
      (pss_cons (ps_asg (pe_op op_addS (pe_slice sl_S (pv 3) (po_some pe_int) po_none) (pe_slice sl_S (pv 3) po_none (po_some pe_int))) (pg_sub (pv 0) (pv 2) set_list))
      (pss_cons (ps_expr (pe_call G_renumber (hr.mono (by decide)) rfl T.F2.mg T.F2.fn.kp T.F2.bd .nil pass0 (pa_cons (pv 1) (pa_cons (pv 2) (pa_cons (pe_op op_cat (pe_lst (pa_cons (pe_op op_sub (pe_callB call_lenS rfl T.z_len PySem.boot_len (pa_cons (pv 3) pa_nil)) pe_int) pa_nil)) (pe_listRng1 rfl rfl T.z_list rfl T.z_range (pa_cons (pe_op op_sub (pe_callB call_lenS rfl T.z_len PySem.boot_len (pa_cons (pv 3) pa_nil)) pe_int) pa_nil))) pa_nil)))))
      (pss_one (ps_ret pe_bl))))), ?_⟩
  obtain ⟨d, wl, bs, os, ws, c, w, rfl, hH, hw, q⟩ := h
  have hs : (100000 : Nat) < sizeLine := by decide
  have hwc : (txs ws)[c]? = some (.str (S w)) := by unfold txs; rw [List.getElem?_map, hw]; rfl
  refine ⟨_, rfl, _, rfl, wl, _, _, _, rfl, rfl, SqL.of hH.wd, atI_nat hwc, ?_⟩
  obtain ⟨hwo, hwz⟩ := hH.wo w (List.mem_of_getElem? hw)
  have hcw : c < ws.length := (List.getElem?_eq_some_iff.mp hw).1
  have hz4 := hH.wz
  refine ⟨_, rfl, _, rfl, w, rfl, by omega, _, rfl, _, rfl, w, rfl, by omega, _, _, rfl, rfl, by rw [cut_one, cut_one']; simp; omega, _, rfl, _, rfl, wl, _, _, c, rfl, rfl, hH.wd, by rw [txs_len]; exact ixN_nat hcw, ?_⟩
  rw [cut_one, cut_one', txs_set]
  have hO1 : OrdAt (upd H wl (.lst (txs (ws.set c (w.drop 1 ++ w.take 1))))) d bs os := hH.od.updW hH.ne hH.wd
  have fin : ∀ H3, Same (upd H wl (.lst (txs (ws.set c (w.drop 1 ++ w.take 1))))) H3 -> _ := fun H3 s3 => left_end hH q s3
  generalize upd H wl (.lst (txs (ws.set c (w.drop 1 ++ w.take 1)))) = H1 at hO1 fin ⊢
  refine ⟨_, rfl, _, rfl, _, rfl, w, rfl, by omega, _, _, rfl, rfl, by show 1 <= sizeLine; decide, fun p1 n1 => ?_⟩
  have s1 := Same.upd (o := HO.lst [V.int ((w.length : Int) - 1)]) n1
  have h1 : upd H1 p1 (HO.lst [V.int ((w.length : Int) - 1)]) p1 = some (HO.lst [V.int ((w.length : Int) - 1)]) := upd_same
  generalize upd H1 p1 (HO.lst [V.int ((w.length : Int) - 1)]) = H2 at s1 h1 ⊢
  refine ⟨_, rfl, w, rfl, by omega, _, _, rfl, rfl, _, rfl, by omega, by omega, fun p2 n2 => ?_⟩
  have s2 := Same.upd (o := HO.lst ((List.range ((w.length : Int) - 1).toNat).map fun (k : Nat) => V.int (0 + (k : Int)))) n2
  refine ⟨p1, p2, _, _, rfl, rfl, s2 _ _ h1, upd_same, by simp; omega, fun p3 n3 => ?_⟩
  have s3 := Same.upd (o := HO.lst ([V.int ((w.length : Int) - 1)] ++ (List.range ((w.length : Int) - 1).toNat).map fun (k : Nat) => V.int (0 + (k : Int)))) n3
  have s13 := (s1.trans s2).trans s3
  refine ⟨d, c, p3, bs, os, _, turnF w.length, rfl, hO1.same s13, hH.nd, hH.bl, by omega, upd_same, hH.pl hw fun i hi => turn_at hi, hH.pb hw fun i j hi e => ?_, fin _ s13⟩
  unfold turnF at e
  split at e <;> (cases e; omega)
theorem ok_contrary : FnOk P w K mg base CX0 1 f0 d0 ["letter"] (sp_contrary K) := by
  refine T.F0.fn.ok sc_contrary (fun vs H Q E h => len_contrary h) (fun cdv A outer s H vs Q E hr h => ?_)
  refine ⟨_, (pss_cons (ps_if (pt_val (pe_bm0K K rfl PySem.F.plainAttrs_str PySem.F.slot_str_islower PySem.F.type_str_islower mt_islower (pv 0))) (pss_one (ps_ret (pe_bm0K K rfl PySem.F.plainAttrs_str PySem.F.slot_str_upper PySem.F.type_str_upper mt_upper (pv 0)))) pss_nil)
      (pss_one (ps_ret (pe_bm0K K rfl PySem.F.plainAttrs_str PySem.F.slot_str_lower PySem.F.type_str_lower mt_lower (pv 0))))), ?_⟩
  obtain ⟨c, rfl, hc, q⟩ := h
  refine ⟨_, rfl, rfl, c, rfl, rfl, hc, _, rfl, ite2 (fun e => ?_) (fun e => ?_)⟩
  · refine ⟨_, rfl, rfl, c, rfl, rfl, hc, ?_⟩
    have z : ctr c = PyProof.Rows.up1 c := if_pos e
    rw [<- z]
    exact q
  · refine ⟨_, rfl, rfl, c, rfl, rfl, hc, ?_⟩
    have z : ctr c = PyProof.Rows.lo1 c := if_neg e
    rw [<- z]
    exact q
theorem ok_do_out : FnOk P w K mg base CX0 2 f4 d4 ["words", "orders", "cord", "place"] (sp_do_out K) := by
  have G_contrary := ok_contrary (P := P) (w := w) (base := base) T
  have G_renumber := ok_renumber (P := P) (w := w) (base := base) T
  refine T.F4.fn.ok sc_do_out (fun vs H Q E h => len_do_out h) (fun cdv A outer s H vs Q E hr h => ?_)
  refine ⟨_, (pss_cons (ps_set (i := 4) sc_do_out.nd rfl (Or.inl rfl) (pe_ix (ix_listK K rfl) (pv 0) (pv 2) (fun _ _ => rfl)))
      (pss_cons (ps_if (PW.pt (pw_or (pt_not (pt_chain op_le op_lt pe_int (pv 3) (pe_op op_sub (pe_callB call_lenS rfl T.z_len PySem.boot_len (pa_cons (pv 4) pa_nil)) pe_int))) (pw_or1 (pt_cmpR op_neS (pe_ix ix_S (pv 4) (pe_op op_add (pv 3) pe_int) (fun _ _ => rfl)) (pe_call G_contrary (hr.mono (by decide)) rfl T.F0.mg T.F0.fn.kp T.F0.bd .nil pass0 (pa_cons (pe_ix ix_S (pv 4) (pv 3) (fun _ _ => rfl)) pa_nil)) (nomark _))))) (pss_one (ps_ret pe_bl)) pss_nil)
      (pss_cons (ps_asg (pe_op op_addS (pe_slice sl_S (pv 4) po_none (po_some (pv 3))) (pe_slice sl_S (pv 4) (po_some (pe_op op_add (pv 3) pe_int)) po_none)) (pg_sub (pv 0) (pv 2) set_list))
      (pss_cons (ps_expr (pe_call G_renumber (hr.mono (by decide)) rfl T.F2.mg T.F2.fn.kp T.F2.bd .nil pass0 (pa_cons (pv 1) (pa_cons (pv 2) (pa_cons (pe_op op_cat (pe_op op_cat (pe_listRng1 rfl rfl T.z_list rfl T.z_range (pa_cons (pv 3) pa_nil)) (pe_lst (pa_cons pe_non (pa_cons pe_non pa_nil)))) (pe_listRng2 rfl rfl T.z_list rfl T.z_range (pa_cons (pv 3) (pa_cons (pe_op op_sub (pe_callB call_lenS rfl T.z_len PySem.boot_len (pa_cons (pv 4) pa_nil)) pe_int) pa_nil)))) pa_nil)))))
      (pss_one (ps_ret pe_bl)))))), ?_⟩
  obtain ⟨d, wl, bs, os, ws, c, k, w, x, rfl, hH, hw, hk0, hk1, q⟩ := h
  have hs : (100000 : Nat) < sizeLine := by decide
  have hwc : (txs ws)[c]? = some (.str (S w)) := by unfold txs; rw [List.getElem?_map, hw]; rfl
  obtain ⟨hwo, hwz⟩ := hH.wo w (List.mem_of_getElem? hw)
  have hcw : c < ws.length := (List.getElem?_eq_some_iff.mp hw).1
  have hz4 := hH.wz
  have hkl : k + 1 < w.length := (List.getElem?_eq_some_iff.mp hk1).1
  have hxl := hwo x (List.mem_of_getElem? hk0)
  have ek : (k : Int) + 1 = ((k + 1 : Nat) : Int) := by omega
  have ek2 : (k : Int) + 2 = ((k + 2 : Nat) : Int) := by omega
  refine ⟨_, rfl, _, rfl, wl, _, _, _, rfl, rfl, SqL.of hH.wd, atI_nat hwc, ?_⟩
  refine ⟨_, rfl, _, _, rfl, rfl, _, rfl, iteY (decide_eq_true (by omega)) ⟨_, rfl, w, rfl, by omega, _, _, rfl, rfl, _, _, rfl, rfl, _, rfl, iteN (by rw [decide_eq_true (by omega)]; rfl) ?_⟩⟩
  refine ⟨_, rfl, _, rfl, _, _, rfl, rfl, w, _, ctr x, rfl, rfl, by omega, by rw [ek]; exact atI_nat hk1, ?_⟩
  refine ⟨_, rfl, _, rfl, w, _, x, rfl, rfl, by omega, atI_nat hk0, x, rfl, hxl.lt, _, _, rfl, rfl, _, rfl, iteN (by rw [decide_eq_true rfl]; rfl) ?_⟩
  refine ⟨_, rfl, _, rfl, _, rfl, w, rfl, by omega, ?_⟩
  refine ⟨_, rfl, _, rfl, _, _, rfl, rfl, _, rfl, w, rfl, by omega, _, _, rfl, rfl, by rw [ek2, cut_k, cut_from]; simp; omega, _, rfl, _, rfl, wl, _, _, c, rfl, rfl, hH.wd, by rw [txs_len]; exact ixN_nat hcw, ?_⟩
  rw [ek2, cut_k, cut_from, txs_set]
  have hO1 : OrdAt (upd H wl (.lst (txs (ws.set c (w.take k ++ w.drop (k + 2)))))) d bs os := hH.od.updW hH.ne hH.wd
  have fin : ∀ H3, Same (upd H wl (.lst (txs (ws.set c (w.take k ++ w.drop (k + 2)))))) H3 -> _ := fun H3 s3 => left_end hH q s3
  generalize upd H wl (.lst (txs (ws.set c (w.take k ++ w.drop (k + 2))))) = H1 at hO1 fin ⊢
  refine ⟨_, rfl, _, rfl, _, rfl, _, rfl, by omega, by omega, fun p1 n1 => ?_⟩
  have s1 := Same.upd (o := HO.lst ((List.range ((k : Int)).toNat).map fun (j : Nat) => V.int (0 + (j : Int)))) n1
  have h1 : upd H1 p1 (HO.lst ((List.range ((k : Int)).toNat).map fun (j : Nat) => V.int (0 + (j : Int)))) p1 = _ := upd_same
  generalize upd H1 p1 (HO.lst ((List.range ((k : Int)).toNat).map fun (j : Nat) => V.int (0 + (j : Int)))) = H2 at s1 h1 ⊢
  refine ⟨by show 2 <= sizeLine; decide, fun p2 n2 => ?_⟩
  have s2 := Same.upd (o := HO.lst [V.non, V.non]) n2
  refine ⟨p1, p2, _, _, rfl, rfl, s2 _ _ h1, upd_same, by simp; omega, fun p3 n3 => ?_⟩
  have s3 := Same.upd (o := HO.lst (((List.range ((k : Int)).toNat).map fun (j : Nat) => V.int (0 + (j : Int))) ++ [V.non, V.non])) n3
  have s13 := (s1.trans s2).trans s3
  have h3 : upd (upd H2 p2 (HO.lst [V.non, V.non])) p3 (HO.lst (((List.range ((k : Int)).toNat).map fun (j : Nat) => V.int (0 + (j : Int))) ++ [V.non, V.non])) p3 = _ := upd_same
  generalize upd (upd H2 p2 (HO.lst [V.non, V.non])) p3 (HO.lst (((List.range ((k : Int)).toNat).map fun (j : Nat) => V.int (0 + (j : Int))) ++ [V.non, V.non])) = H3 at s13 h3 ⊢
  refine ⟨_, rfl, _, rfl, w, rfl, by omega, _, _, rfl, rfl, _, _, rfl, by omega, by omega, fun p4 n4 => ?_⟩
  have s4 := Same.upd (o := HO.lst ((List.range ((w.length : Int) - 2 - (k : Int)).toNat).map fun (j : Nat) => V.int ((k : Int) + (j : Int)))) n4
  refine ⟨p3, p4, _, _, rfl, rfl, s4 _ _ h3, upd_same, by simp; omega, fun p5 n5 => ?_⟩
  have s5 := Same.upd (o := HO.lst (((List.range ((k : Int)).toNat).map fun (j : Nat) => V.int (0 + (j : Int))) ++ [V.non, V.non] ++ (List.range ((w.length : Int) - 2 - (k : Int)).toNat).map fun (j : Nat) => V.int ((k : Int) + (j : Int)))) n5
  have s15 := (s13.trans s4).trans s5
  refine ⟨d, c, p5, bs, os, _, outF k, rfl, hO1.same s15, hH.nd, hH.bl, by omega, upd_same, hH.pl hw fun i hi => out_at hkl hi, hH.pb hw fun i j hi e => ?_, fin _ s15⟩
  unfold outF at e
  split at e
  · cases e; omega
  · split at e
    · cases e
    · cases e; omega
theorem ok_shortened : FnOk P w K mg base CX0 2 f9 d9 ["word"] (sp_shortened K) := by
  have G_contrary := ok_contrary (P := P) (w := w) (base := base) T
  refine T.F9.fn.ok sc_shortened (fun vs H Q E h => len_shortened h) (fun cdv A outer s H vs Q E hr h => ?_)
  refine ⟨_, (pss_cons (ps_set (i := 1) sc_shortened.nd rfl (Or.inl rfl) (pe_lst pa_nil))
      (pss_cons (ps_for PassesOwn.never rfl (pi_str (pv 0)) (pg_name (i := 2) sc_shortened.nd rfl (Or.inl rfl)) (pss_one (ps_if (PW.pt (pw_and (pt_truL K rfl (pv 1)) (pw_and1 (pt_cmpR op_eqS (pe_ix (ix_listK K rfl) (pv 1) (pe_un un_neg pe_int) (fun _ _ => rfl)) (pe_call G_contrary (hr.mono (by decide)) rfl T.F0.mg T.F0.fn.kp T.F0.bd .nil pass0 (pa_cons (pv 2) pa_nil)) (nomark _))))) (pss_one (ps_expr (pe_bm0K K rfl PySem.F.plainAttrs_list PySem.F.slot_list_pop PySem.F.type_list_pop mt_pop (pv 1)))) (pss_one (ps_expr (pe_bmK K rfl PySem.F.plainAttrs_list PySem.F.slot_list_append PySem.F.type_list_append mt_append (pv 1) (pa_cons (pv 2) pa_nil)))))))
      (pss_one (ps_ret (pe_bmK K rfl PySem.F.plainAttrs_str PySem.F.slot_str_join PySem.F.type_str_join (mt_joinK K rfl) (pe_S [] (by decide +kernel)) (pa_cons (pv 1) pa_nil)))))), ?_⟩
  obtain ⟨l, rfl, hl, hz, q⟩ := h
  have hs : (100000 : Nat) < sizeLine := by decide
  (repeat (first | refine ⟨_, rfl, ?_⟩ | refine ⟨_, _, rfl, rfl, ?_⟩ | refine ⟨rfl, ?_⟩ | refine And.intro (by first | decide | omega | assumption | exact Nat.le_of_ble_eq_true rfl | exact .inl ⟨by decide, by decide⟩ | exact .inr ⟨by decide, by decide⟩ | exact ⟨by decide, by decide⟩ | exact ⟨by omega, by omega⟩) ?_))
  intro p1 n1
  refine ⟨_, rfl, l, rfl, ?_⟩
  refine for_fix (xs := sgs l) (fun i σ H' => ∃ lv, σ = [some (.str (S l)), some (.ref p1), lv] /\ H' p1 = some (.lst (sgs (red (l.take i)))) /\ SameB p1 H H') ⟨none, rfl, upd_same, SameB.of (Same.upd n1)⟩ ?_ ?_
  · rintro i x σ H1 hx ⟨lv, rfl, hp, s1⟩
    obtain ⟨c, hc, rfl⟩ := sgs_get hx
    have hi : i < l.length := (List.getElem?_eq_some_iff.mp hc).1
    have h8 : c < 128 := (hl c (List.mem_of_getElem? hc)).lt
    have hrl : (red (l.take i)).length <= 1000 := Nat.le_trans (red_len _) (by rw [List.length_take]; omega)
    have fin : ∀ st, st = rstep (red (l.take i)) c -> ∃ lv, [some (V.str (S l)), some (V.ref p1), some (V.str (S [c]))] = [some (V.str (S l)), some (.ref p1), lv] /\ (upd H1 p1 (.lst (sgs st))) p1 = some (.lst (sgs (red (l.take (i + 1))))) /\ SameB p1 H (upd H1 p1 (.lst (sgs st))) := fun st e =>
      ⟨_, rfl, by rw [upd_same, red_take hc, e], fun b o e z => by rw [upd_ne z]; exact s1 b o e z⟩
    refine ⟨_, rfl, p1, _, rfl, SqL.of hp, ?_⟩
    rcases snoc_cases (red (l.take i)) with e | ⟨m, a, e⟩
    · rw [e] at hp ⊢
      refine iteN rfl ?_
      refine iteF ?_
      refine ⟨_, rfl, .inl ⟨rfl, _, SqL.of hp⟩, _, rfl, p1, _, _, rfl, rfl, hp, by rw [sgs_len]; exact (by decide : (0 : Nat) < sizeLine), ?_⟩
      rw [sgs_snoc]
      refine fin _ ?_
      rw [e]
      unfold rstep
      rw [if_neg (by simp)]
    · rw [e] at hp hrl ⊢
      have hml : m.length <= 1000 := by simp at hrl; omega
      rw [<- sgs_snoc] at hp ⊢
      refine iteY (by simp) ?_
      refine ⟨_, rfl, _, rfl, p1, _, _, _, rfl, rfl, SqL.of hp, atI_last _ _, _, rfl, c, rfl, h8, [a], [ctr c], rfl, rfl, _, rfl, ite2 (fun z => ?_) (fun z => ?_)⟩
      · have ea : a = ctr c := by simpa using of_decide_eq_true z
        refine ⟨_, rfl, .inl ⟨rfl, _, SqL.of hp⟩, p1, _, V.str (S [a]), rfl, rfl, hp, by simp, ?_⟩
        rw [List.dropLast_concat]
        refine fin _ ?_
        rw [e]
        unfold rstep
        rw [if_pos (by simp [ea]), List.dropLast_concat]
      · have ea : a ≠ ctr c := fun w => z (decide_eq_true (by rw [w]))
        refine ⟨_, rfl, .inl ⟨rfl, _, SqL.of hp⟩, _, rfl, p1, _, _, rfl, rfl, hp, by rw [List.length_append, sgs_len]; show m.length + 1 < sizeLine; omega, ?_⟩
        rw [sgs_snoc, sgs_snoc]
        refine fin _ ?_
        rw [e]
        unfold rstep
        rw [if_neg (by simpa using ea)]
  · rintro σ H1 ⟨lv, rfl, hp, s1⟩
    rw [sgs_take] at hp
    refine ⟨rfl, _, rfl, p1, (red l).map fun c => [c], rfl, rfl, SqL.of (by rw [<- sgs_lists]; exact hp), ?_, ?_⟩
    · rw [sum1]
      have := red_len l
      omega
    · rw [flat1]
      exact q _ (fun b o e => s1 b o e (ne_of_none e n1))
theorem ok_shortest : FnOk P w K mg base CX0 3 f10 d10 ["word"] (sp_shortest K) := by
  have G_shortened := ok_shortened (P := P) (w := w) (base := base) T
  have G_contrary := ok_contrary (P := P) (w := w) (base := base) T
  refine T.F10.fn.ok sc_shortest (fun vs H Q E h => len_shortest h) (fun cdv A outer s H vs Q E hr h => ?_)
  refine ⟨_, (pss_cons (ps_set (i := 1) sc_shortest.nd rfl (Or.inl rfl) (pe_call G_shortened (hr.mono (by decide)) rfl T.F9.mg T.F9.fn.kp T.F9.bd .nil pass0 (pa_cons (pv 0) pa_nil)))
      (pss_cons (ps_set (i := 2) sc_shortest.nd rfl (Or.inl rfl) pe_int)
      (pss_cons (ps_set (i := 3) sc_shortest.nd rfl (Or.inl rfl) (pe_callB call_lenS rfl T.z_len PySem.boot_len (pa_cons (pv 1) pa_nil)))
      (pss_cons (ps_whileN PassesOwn.never (PW.pt (pw_and (pt_cmpR op_ge (pe_op op_sub (pv 3) (pv 2)) pe_int (nomark _)) (pw_and1 (pt_cmpR op_eqS (pe_ix ix_S (pv 1) (pv 2) (fun _ _ => rfl)) (pe_call G_contrary (hr.mono (by decide)) rfl T.F0.mg T.F0.fn.kp T.F0.bd .nil pass0 (pa_cons (pe_ix ix_S (pv 1) (pe_op op_sub (pv 3) pe_int) (fun _ _ => rfl)) pa_nil)) (nomark _))))) (pss_cons (ps_aug (i := 2) sc_shortest.nd rfl (Or.inl rfl) pe_int ip_add)
      (pss_one (ps_aug (i := 3) sc_shortest.nd rfl (Or.inl rfl) pe_int ip_sub))))
      (pss_one (ps_ret (pe_slice sl_S (pv 1) (po_some (pv 2)) (po_some (pv 3))))))))), ?_⟩
  obtain ⟨l, rfl, hl, hz, q⟩ := h
  have hs : (100000 : Nat) < sizeLine := by decide
  refine ⟨_, rfl, l, rfl, hl, hz, fun H1 s1 => ?_⟩
  have hr1 := red_len l
  have hlt := red_lt hl
  generalize red l = r at hr1 hlt q ⊢
  have hrz : r.length <= sizeLine := by omega
  (repeat (first | refine ⟨_, rfl, ?_⟩ | refine ⟨_, _, rfl, rfl, ?_⟩ | refine ⟨rfl, ?_⟩ | refine And.intro (by first | decide | omega | assumption | exact Nat.le_of_ble_eq_true rfl | exact .inl ⟨by decide, by decide⟩ | exact .inr ⟨by decide, by decide⟩ | exact ⟨by decide, by decide⟩ | exact ⟨by omega, by omega⟩) ?_))
  refine ⟨fun m σ H' => ∃ (a e : Nat), σ = [some (.str (S l)), some (.str (S r)), some (.int a), some (.int e)] /\ m = e - a /\ a <= e /\ e <= r.length /\ core (win r a e) = core r /\ H' = H1, ⟨_, 0, r.length, rfl, rfl, Nat.zero_le _, Nat.le_refl _, by rw [win_all], rfl⟩, ?_⟩
  rintro m σ H2 ⟨a, e, rfl, rfl, h1, h2, hc, rfl⟩
  have fin : core (win r a e) = win r a e -> Q (.str (S (cut r (some (a : Int)) (some (e : Int))))) H2 := fun z => by
    have e1 : cut r (some (a : Int)) (some (e : Int)) = win r a e := by
      unfold cut win
      rw [HT.sIx_nat, HT.sIx_nat]
      have e1 : min a r.length = a := by omega
      have e2 : min e r.length = e := by omega
      rw [e1, e2]
    rw [e1, <- z, hc]
    exact q H2 s1
  (repeat (first | refine ⟨_, rfl, ?_⟩ | refine ⟨_, _, rfl, rfl, ?_⟩ | refine ⟨rfl, ?_⟩ | refine And.intro (by first | decide | omega | assumption | exact Nat.le_of_ble_eq_true rfl | exact .inl ⟨by decide, by decide⟩ | exact .inr ⟨by decide, by decide⟩ | exact ⟨by decide, by decide⟩ | exact ⟨by omega, by omega⟩) ?_))
  refine ite2 (fun z => ?_) (fun z => ?_)
  · have z1 : (2 : Int) <= (e : Int) - (a : Int) := of_decide_eq_true z
    have ha : a < r.length := by omega
    have he : e - 1 < r.length := by omega
    have g0 : atI r (a : Int) = some r[a] := atI_nat (List.getElem?_eq_getElem ha)
    have g1 : atI r ((e : Int) - 1) = some r[e - 1] := by
      have : (e : Int) - 1 = ((e - 1 : Nat) : Int) := by omega
      rw [this]; exact atI_nat (List.getElem?_eq_getElem he)
    have h8 : r[e - 1] < 128 := (hlt _ (List.getElem_mem he)).lt
    have hw := win_go (l := r) (s := a) (e := e) (by omega) h2
    refine ⟨_, rfl, _, rfl, r, _, _, rfl, rfl, hrz, g0, ?_⟩
    (repeat (first | refine ⟨_, rfl, ?_⟩ | refine ⟨_, _, rfl, rfl, ?_⟩ | refine ⟨rfl, ?_⟩ | refine And.intro (by first | decide | omega | assumption | exact Nat.le_of_ble_eq_true rfl | exact .inl ⟨by decide, by decide⟩ | exact .inr ⟨by decide, by decide⟩ | exact ⟨by decide, by decide⟩ | exact ⟨by omega, by omega⟩) ?_))
    refine ⟨r, _, _, rfl, rfl, hrz, g1, ?_⟩
    (repeat (first | refine ⟨_, rfl, ?_⟩ | refine ⟨_, _, rfl, rfl, ?_⟩ | refine ⟨rfl, ?_⟩ | refine And.intro (by first | decide | omega | assumption | exact Nat.le_of_ble_eq_true rfl | exact .inl ⟨by decide, by decide⟩ | exact .inr ⟨by decide, by decide⟩ | exact ⟨by decide, by decide⟩ | exact ⟨by omega, by omega⟩) ?_))
    refine ite2 (fun y => ?_) (fun y => ?_)
    · have ey : r[a] = ctr r[e - 1] := by simpa using of_decide_eq_true y
      (repeat (first | refine ⟨_, rfl, ?_⟩ | refine ⟨_, _, rfl, rfl, ?_⟩ | refine ⟨rfl, ?_⟩ | refine And.intro (by first | decide | omega | assumption | exact Nat.le_of_ble_eq_true rfl | exact .inl ⟨by decide, by decide⟩ | exact .inr ⟨by decide, by decide⟩ | exact ⟨by decide, by decide⟩ | exact ⟨by omega, by omega⟩) ?_))
      refine ⟨(e - 1) - (a + 1), by omega, a + 1, e - 1, ?_, rfl, by omega, by omega, ?_, rfl⟩
      · have e1 : (a : Int) + 1 = ((a + 1 : Nat) : Int) := by omega
        have e2 : (e : Int) - 1 = ((e - 1 : Nat) : Int) := by omega
        rw [<- e1, <- e2]
        rfl
      · rw [<- hc, hw, core_go ey]
    · have ey : r[a] ≠ ctr r[e - 1] := fun w => y (decide_eq_true (by rw [w]))
      (repeat (first | refine ⟨_, rfl, ?_⟩ | refine ⟨_, _, rfl, rfl, ?_⟩ | refine ⟨rfl, ?_⟩ | refine And.intro (by first | decide | omega | assumption | exact Nat.le_of_ble_eq_true rfl | exact .inl ⟨by decide, by decide⟩ | exact .inr ⟨by decide, by decide⟩ | exact ⟨by decide, by decide⟩ | exact ⟨by omega, by omega⟩) ?_))
      exact fin (by rw [hw, core_stop ey])
  · have z1 : ¬ (2 : Int) <= (e : Int) - (a : Int) := fun w => z (decide_eq_true w)
    (repeat (first | refine ⟨_, rfl, ?_⟩ | refine ⟨_, _, rfl, rfl, ?_⟩ | refine ⟨rfl, ?_⟩ | refine And.intro (by first | decide | omega | assumption | exact Nat.le_of_ble_eq_true rfl | exact .inl ⟨by decide, by decide⟩ | exact .inr ⟨by decide, by decide⟩ | exact ⟨by decide, by decide⟩ | exact ⟨by omega, by omega⟩) ?_))
    exact fin (core_short (by rw [win_len h2]; omega))
theorem ok_ring : FnOk P w K mg base CX0 4 f11 d11 ["word"] (sp_ring K) := by
  have G_shortest := ok_shortest (P := P) (w := w) (base := base) T
  refine T.F11.fn.ok sc_ring (fun vs H Q E h => len_ring h) (fun cdv A outer s H vs Q E hr h => ?_)
  refine ⟨_, (pss_cons (ps_set (i := 1) sc_ring.nd rfl (Or.inl rfl) (pe_call G_shortest (hr.mono (by decide)) rfl T.F10.mg T.F10.fn.kp T.F10.bd .nil pass0 (pa_cons (pv 0) pa_nil)))
      (pss_cons (ps_set (i := 2) sc_ring.nd rfl (Or.inl rfl) (pv 1))
      (pss_cons (ps_for PassesOwn.never rfl (pi_range2 rfl T.z_range (pa_cons pe_int (pa_cons (pe_callB call_lenS rfl T.z_len PySem.boot_len (pa_cons (pv 1) pa_nil)) pa_nil))) (pg_name (i := 3) sc_ring.nd rfl (Or.inl rfl)) (pss_cons (ps_set (i := 4) sc_ring.nd rfl (Or.inl rfl) (pe_op op_addS (pe_slice sl_S (pv 1) (po_some (pv 3)) po_none) (pe_slice sl_S (pv 1) po_none (po_some (pv 3)))))
      (pss_one (ps_if (pt_cmpR op_ltS (pv 4) (pv 2) (nomark _)) (pss_one (ps_set (i := 2) sc_ring.nd rfl (Or.inl rfl) (pv 4))) pss_nil))))
      (pss_one (ps_ret (pv 2)))))), ?_⟩
  obtain ⟨l, rfl, hl, hz, q⟩ := h
  have hs : (100000 : Nat) < sizeLine := by decide
  refine ⟨_, rfl, l, rfl, hl, hz, fun H1 s1 => ?_⟩
  have hc1 : (core (red l)).length <= 1000 := Nat.le_trans (core_len _) (Nat.le_trans (red_len l) hz)
  unfold ringM ringC at q
  generalize core (red l) = c at hc1 q ⊢
  have hcz : c.length <= sizeLine := by omega
  (repeat (first | refine ⟨_, rfl, ?_⟩ | refine ⟨_, _, rfl, rfl, ?_⟩ | refine ⟨rfl, ?_⟩ | refine And.intro (by first | decide | omega | assumption | exact Nat.le_of_ble_eq_true rfl | exact .inl ⟨by decide, by decide⟩ | exact .inr ⟨by decide, by decide⟩ | exact ⟨by decide, by decide⟩ | exact ⟨by omega, by omega⟩) ?_))
  refine ⟨_, _, rfl, ⟨by decide, by decide, by omega, by omega⟩, ?_⟩
  refine for_range (fun i σ H' => H' = H1 /\ ∃ sv bv, σ = [some (.str (S l)), some (.str (S c)), some (.str (S (leastOf c (rots c i)))), sv, bv]) ⟨rfl, none, none, rfl⟩ ?_ ?_
  · rintro i σ H2 hi ⟨rfl, sv, bv, rfl⟩
    have e1 : (1 : Int) + (i : Int) = ((i + 1 : Nat) : Int) := by omega
    rw [e1]
    have hlen : (cut c (some ((i + 1 : Nat) : Int)) none).length + (cut c none (some ((i + 1 : Nat) : Int))).length <= sizeLine := by rw [cut_to, cut_from, List.length_drop, List.length_take]; omega
    have hrot : cut c (some ((i + 1 : Nat) : Int)) none ++ cut c none (some ((i + 1 : Nat) : Int)) = rot c (i + 1) := by rw [cut_to, cut_from]; rfl
    (repeat (first | refine ⟨_, rfl, ?_⟩ | refine ⟨_, _, rfl, rfl, ?_⟩ | refine ⟨rfl, ?_⟩ | refine And.intro (by first | decide | omega | assumption | exact Nat.le_of_ble_eq_true rfl | exact .inl ⟨by decide, by decide⟩ | exact .inr ⟨by decide, by decide⟩ | exact ⟨by decide, by decide⟩ | exact ⟨by omega, by omega⟩) ?_))
    rw [hrot]
    refine ite2 (fun z => ?_) (fun z => ?_)
    · have z' : rot c (i + 1) < leastOf c (rots c i) := of_decide_eq_true z
      have hle : leastOf c (rots c (i + 1)) = rot c (i + 1) := by rw [rots_snoc, leastOf_snoc]; unfold lesser; rw [if_pos z']
      refine ⟨_, rfl, ?_⟩
      rw [hle]
      exact ⟨rfl, _, _, rfl⟩
    · have z' : ¬ rot c (i + 1) < leastOf c (rots c i) := fun y => z (decide_eq_true y)
      have hle : leastOf c (rots c (i + 1)) = leastOf c (rots c i) := by rw [rots_snoc, leastOf_snoc]; unfold lesser; rw [if_neg z']
      rw [hle]
      exact ⟨rfl, _, _, rfl⟩
  · rintro σ H2 ⟨rfl, sv, bv, rfl⟩
    have e : ((c.length : Int) - 1).toNat = c.length - 1 := by omega
    rw [e]
    exact ⟨_, rfl, q _ s1⟩
theorem ok_bands : FnOk P w K mg base CX0 1 f1 d1 ["yard"] (sp_bands K) := by
  refine T.F1.fn.ok sc_bands (fun vs H Q E h => len_bands h) (fun cdv A outer s H vs Q E hr h => ?_)
  refine ⟨_, (pss_one (ps_ret (pe_bmK K rfl PySem.F.plainAttrs_str PySem.F.slot_str_join PySem.F.type_str_join (mt_joinK K rfl) (pe_S [] (by decide +kernel)) (pa_cons (pe_callB (call_sortedK K rfl) rfl T.z_sorted boot_sorted (pa_cons (pe_compB ["letter"] [none] (pi_str (pv 0)) trivial (fun _ _ _ _ => (pg_name (i := 0) (by decide +kernel : List.Nodup (["letter"] : List Str)) rfl (Or.inl rfl))) (fun _ _ _ _ => (pf_one (pt_val (pe_bm0K K rfl PySem.F.plainAttrs_str PySem.F.slot_str_islower PySem.F.type_str_islower mt_islower (pv 0))))) (fun _ _ _ _ => (pv 0))) pa_nil)) pa_nil)))), ?_⟩
  obtain ⟨l, rfl, hl, hz, q⟩ := h
  have hs : (1000 : Nat) < sizeLine := by decide
  refine ⟨rfl, _, rfl, l, rfl, ?_⟩
  refine comp_fix (xs := sgs l) (fun i acc H' => Same H H' /\ acc = sgs ((l.take i).filter isLow)) (by rw [sgs_len]; omega) ⟨Same.refl H, rfl⟩ ?_ ?_
  · rintro i x acc H1 Nx hi hx hal ⟨s1, rfl⟩ nx
    obtain ⟨c, hc, rfl⟩ := sgs_get hx
    have e := filter_take (p := isLow) hc
    refine ⟨trivial, ?_⟩
    refine ⟨_, rfl, rfl, c, rfl, rfl, hl c (List.mem_of_getElem? hc), _, rfl, ?_⟩
    refine ite2 (fun z => ?_) (fun z => ?_)
    · rw [if_pos z] at e
      exact ⟨_, rfl, nx _ _ (by simpa using hal) ⟨s1, by rw [e, <- sgs_snoc]⟩⟩
    · rw [if_neg z, List.append_nil] at e
      exact nx _ _ (Nat.le_succ_of_le hal) ⟨s1, by rw [e]⟩
  · rintro acc H1 D hal ⟨s1, rfl⟩ hD
    rw [sgs_take, sgs_lists]
    have hfl : (l.filter isLow).length <= l.length := List.length_filter_le _ _
    refine ⟨D, (l.filter isLow).map fun c => [c], rfl, SqL.of upd_same, by rw [List.length_map]; omega, fun p ls hp hpm hpw => ?_⟩
    obtain ⟨l', rfl, pl⟩ := ones_of hpm
    have hl' := pl.length_eq
    refine ⟨p, l'.map fun c => [c], rfl, rfl, SqL.of upd_same, by rw [sum1]; omega, ?_⟩
    rw [flat1]
    exact q l' _ pl (ones_pw hpw) ((s1.trans (Same.upd hD)).trans (Same.upd hp))
theorem ok_do_swap : FnOk P w K mg base CX0 1 f3 d3 ["orders", "band", "number"] (sp_do_swap K) := by
  refine T.F3.fn.ok sc_do_swap (fun vs H Q E h => len_do_swap h) (fun cdv A outer s H vs Q E hr h => ?_)
  refine ⟨_, (pss_cons (ps_if (PW.pt (pw_or (pt_cmp (pc_dnotin (hu_of hr) (pv 1) (pv 0)) (by with_unfolding_all rfl)) (pw_or1 (pt_not (pt_chain op_le op_lt pe_int (pv 2) (pe_op op_sub (pe_callB (call_len_seqK K rfl) rfl T.z_len PySem.boot_len (pa_cons (pe_dget (hu_of hr) (pv 0) (pv 1) (fun _ _ => rfl)) pa_nil)) pe_int)))))) (pss_one (ps_ret pe_bl)) pss_nil)
      (pss_cons (ps_set (i := 3) sc_do_swap.nd rfl (Or.inl rfl) (pe_dget (hu_of hr) (pv 0) (pv 1) (fun _ _ => rfl)))
      (pss_cons (ps_set (i := 4) sc_do_swap.nd rfl (Or.inl rfl) (pe_ix (ix_listK K rfl) (pv 3) (pv 2) (fun _ _ => rfl)))
      (pss_cons (ps_asg (pe_ix (ix_listK K rfl) (pv 3) (pe_op op_add (pv 2) pe_int) (fun _ _ => rfl)) (pg_sub (pv 3) (pv 2) set_list))
      (pss_cons (ps_asg (pv 4) (pg_sub (pv 3) (pe_op op_add (pv 2) pe_int) set_list))
      (pss_one (ps_ret pe_bl))))))), ?_⟩
  obtain ⟨d, bs, os, b, j, n, o, rfl, hO, nd, hbl, hb, ho, hn, q⟩ := h
  have hs : (100000 : Nat) < sizeLine := by decide
  have hom := List.mem_of_getElem? ho
  have hoO := hO.ok o hom
  have hfw := hoO.fw
  have hget := ordK_get nd hb ho
  have dg : DGet H d (V.str (S [b])) (some (.ref o.o)) := by rw [<- hget]; exact DGet.k (k := kS [b]) hO.dk
  have h0 : o.ps[n]? = some (o.ps[n]'(by omega)) := List.getElem?_eq_getElem _
  have h1 : o.ps[n + 1]? = some o.ps[n + 1] := List.getElem?_eq_getElem hn
  generalize hp0 : (o.ps[n]'(by omega)) = p0 at h0
  generalize hp1 : o.ps[n + 1] = p1 at h1
  have g0 : (prv o.ps)[n]? = some (V.ref p0.t) := by unfold prv; rw [List.getElem?_map, h0]; rfl
  have g1 : (prv o.ps)[n + 1]? = some (V.ref p1.t) := by unfold prv; rw [List.getElem?_map, h1]; rfl
  have esw : swapAt n o.ps = (o.ps.set n p1).set (n + 1) p0 := by unfold swapAt; rw [h0, h1]
  have en : (n : Int) + 1 = ((n + 1 : Nat) : Int) := by omega
  refine ⟨_, rfl, _, rfl, d, _, rfl, dg, _, rfl, iteN rfl ?_⟩
  refine ⟨_, rfl, _, _, rfl, rfl, _, rfl, iteY (decide_eq_true (by omega)) ?_⟩
  refine ⟨_, rfl, _, rfl, d, _, rfl, dg, o.o, _, rfl, .inl (SqL.of hoO.tp), _, _, rfl, rfl, _, _, rfl, rfl, _, rfl, iteN ?_ ?_⟩
  · rw [prv_len, decide_eq_true (by omega)]; rfl
  refine ⟨_, rfl, _, rfl, d, _, rfl, dg, ?_⟩
  refine ⟨_, rfl, _, rfl, o.o, _, _, _, rfl, rfl, SqL.of hoO.tp, atI_nat g0, ?_⟩
  refine ⟨_, rfl, _, rfl, _, _, rfl, rfl, o.o, _, _, _, rfl, rfl, SqL.of hoO.tp, by rw [en]; exact atI_nat g1, ?_⟩
  refine ⟨_, rfl, _, rfl, o.o, _, _, n, rfl, rfl, hoO.tp, ?_, ?_⟩
  · rw [prv_len]; exact ixN_nat (by omega)
  rw [prv_set]
  refine ⟨_, rfl, _, rfl, _, rfl, _, _, rfl, rfl, o.o, _, _, n + 1, rfl, rfl, upd_same, ?_, ?_⟩
  · rw [en, prv_len, List.length_set]; exact ixN_nat (by omega)
  rw [prv_set, upd_upd, <- esw]
  have hsw := swap_perm n o.ps
  refine q _ (hO.mut ho (fun p hp => hoO.pr p (hsw.mem_iff.mp hp)) (by rw [hsw.length_eq]; exact hfw)) fun a u ea z => by rw [upd_ne z]; exact ea
theorem ok_do_in : FnOk P w K mg base CX0 2 f5 d5 ["words", "orders", "cord", "place", "letter", "number"] (sp_do_in K) := by
  have G_contrary := ok_contrary (P := P) (w := w) (base := base) T
  have G_renumber := ok_renumber (P := P) (w := w) (base := base) T
  refine T.F5.fn.ok sc_do_in (fun vs H Q E h => len_do_in h) (fun cdv A outer s H vs Q E hr h => ?_)
  refine ⟨_, (pss_cons (ps_set (i := 6) sc_do_in.nd rfl (Or.inl rfl) (pe_ix (ix_listK K rfl) (pv 0) (pv 2) (fun _ _ => rfl)))
      (pss_cons (ps_set (i := 7) sc_do_in.nd rfl (Or.inl rfl) (pe_dget (hu_of hr) (pv 1) (pe_bm0K K rfl PySem.F.plainAttrs_str PySem.F.slot_str_lower PySem.F.type_str_lower mt_lower (pv 4)) (fun _ _ => rfl)))
      (pss_cons (ps_if (PW.pt (pw_or (pt_not (pt_chain op_le op_le pe_int (pv 3) (pe_callB call_lenS rfl T.z_len PySem.boot_len (pa_cons (pv 6) pa_nil)))) (pw_or1 (pt_not (pt_chain op_le op_le pe_int (pv 5) (pe_callB (call_len_seqK K rfl) rfl T.z_len PySem.boot_len (pa_cons (pv 7) pa_nil))))))) (pss_one (ps_ret pe_bl)) pss_nil)
      (pss_cons (ps_asg (pe_op op_addS (pe_op op_addS (pe_op op_addS (pe_slice sl_S (pv 6) po_none (po_some (pv 3))) (pv 4)) (pe_call G_contrary (hr.mono (by decide)) rfl T.F0.mg T.F0.fn.kp T.F0.bd .nil pass0 (pa_cons (pv 4) pa_nil))) (pe_slice sl_S (pv 6) (po_some (pv 3)) po_none)) (pg_sub (pv 0) (pv 2) set_list))
      (pss_cons (ps_expr (pe_call G_renumber (hr.mono (by decide)) rfl T.F2.mg T.F2.fn.kp T.F2.bd .nil pass0 (pa_cons (pv 1) (pa_cons (pv 2) (pa_cons (pe_op op_cat (pe_listRng1 rfl rfl T.z_list rfl T.z_range (pa_cons (pv 3) pa_nil)) (pe_listRng2 rfl rfl T.z_list rfl T.z_range (pa_cons (pe_op op_add (pv 3) pe_int) (pa_cons (pe_op op_add (pe_callB call_lenS rfl T.z_len PySem.boot_len (pa_cons (pv 6) pa_nil)) pe_int) pa_nil)))) pa_nil)))))
      (pss_cons (ps_expr (pe_bmK K rfl PySem.F.plainAttrs_list PySem.F.slot_list_insert PySem.F.type_list_insert mt_insert (pe_dget (hu_of hr) (pv 1) (pe_bm0K K rfl PySem.F.plainAttrs_str PySem.F.slot_str_lower PySem.F.type_str_lower mt_lower (pv 4)) (fun _ _ => rfl)) (pa_cons (pv 5) (pa_cons (pe_tup (pa_cons (pv 2) (pa_cons (pe_op op_add (pv 3) pe_int) pa_nil))) pa_nil))))
      (pss_cons (ps_expr (pe_bmK K rfl PySem.F.plainAttrs_list PySem.F.slot_list_insert PySem.F.type_list_insert mt_insert (pe_dget (hu_of hr) (pv 1) (pe_bm0K K rfl PySem.F.plainAttrs_str PySem.F.slot_str_lower PySem.F.type_str_lower mt_lower (pv 4)) (fun _ _ => rfl)) (pa_cons (pv 5) (pa_cons (pe_tup (pa_cons (pv 2) (pa_cons (pv 3) pa_nil))) pa_nil))))
      (pss_one (ps_ret pe_bl))))))))), ?_⟩
  obtain ⟨d, wl, bs, os, ws, c, k, n, j, w, x, o, rfl, hH, hw, hk, hx, hb, ho, hn, hol, q⟩ := h
  have hs : (100000 : Nat) < sizeLine := by decide
  have hwc : (txs ws)[c]? = some (.str (S w)) := by unfold txs; rw [List.getElem?_map, hw]; rfl
  obtain ⟨hwo, hwz⟩ := hH.wo w (List.mem_of_getElem? hw)
  have hcw : c < ws.length := (List.getElem?_eq_some_iff.mp hw).1
  have hz4 := hH.wz
  have hoO := hH.od.ok o (List.mem_of_getElem? ho)
  have dg : DGet H d (V.str (S [PyProof.Rows.lo1 x])) (some (.ref o.o)) := by rw [<- ordK_get hH.nd hb ho]; exact DGet.k (k := kS [PyProof.Rows.lo1 x]) hH.od.dk
  refine ⟨_, rfl, _, rfl, wl, _, _, _, rfl, rfl, SqL.of hH.wd, atI_nat hwc, ?_⟩
  refine ⟨_, rfl, _, rfl, rfl, ?_⟩
  refine ⟨x, rfl, rfl, hx.lt, d, _, rfl, dg, ?_⟩
  refine ⟨_, rfl, _, _, rfl, rfl, _, rfl, iteY (decide_eq_true (by omega)) ⟨_, rfl, w, rfl, by omega, _, _, rfl, rfl, _, rfl, iteN (by rw [decide_eq_true (by omega)]; rfl) ?_⟩⟩
  refine ⟨_, rfl, _, _, rfl, rfl, _, rfl, iteY (decide_eq_true (by omega)) ⟨_, rfl, o.o, _, rfl, .inl (SqL.of hoO.tp), _, _, rfl, rfl, _, rfl, iteN (by rw [prv_len, decide_eq_true (by omega)]; rfl) ?_⟩⟩
  refine ⟨_, rfl, _, rfl, _, rfl, w, rfl, by omega, _, rfl, _, [x], rfl, rfl, by rw [cut_k]; simp; omega, ?_⟩
  refine ⟨_, rfl, x, rfl, hx.lt, _, [ctr x], rfl, rfl, by rw [cut_k]; simp; omega, ?_⟩
  refine ⟨_, rfl, _, rfl, _, rfl, w, rfl, by omega, _, _, rfl, rfl, by rw [cut_k, cut_from]; simp; omega, _, rfl, _, rfl, wl, _, _, c, rfl, rfl, hH.wd, by rw [txs_len]; exact ixN_nat hcw, ?_⟩
  rw [cut_k, cut_from, txs_set]
  have hO1 : OrdAt (upd H wl (.lst (txs (ws.set c (w.take k ++ [x] ++ [ctr x] ++ w.drop k))))) d bs os := hH.od.updW hH.ne hH.wd
  have fac : ∀ H3, Same (upd H wl (.lst (txs (ws.set c (w.take k ++ [x] ++ [ctr x] ++ w.drop k))))) H3 -> ∀ (os' : List Od) (H' : Hp), _ -> _ -> _ := fun H3 s3 os' H' => left_facts (os' := os') (H' := H') hH s3
  generalize upd H wl (.lst (txs (ws.set c (w.take k ++ [x] ++ [ctr x] ++ w.drop k)))) = H1 at hO1 fac ⊢
  refine ⟨_, rfl, _, rfl, _, rfl, _, rfl, by omega, by omega, fun p1 n1 => ?_⟩
  have s1 := Same.upd (o := HO.lst ((List.range ((k : Int)).toNat).map fun (j : Nat) => V.int (0 + (j : Int)))) n1
  have h1 : upd H1 p1 (HO.lst ((List.range ((k : Int)).toNat).map fun (j : Nat) => V.int (0 + (j : Int)))) p1 = _ := upd_same
  generalize upd H1 p1 (HO.lst ((List.range ((k : Int)).toNat).map fun (j : Nat) => V.int (0 + (j : Int)))) = H2 at s1 h1 ⊢
  refine ⟨_, rfl, _, _, rfl, rfl, _, rfl, w, rfl, by omega, _, _, rfl, rfl, _, _, rfl, by omega, by omega, fun p4 n4 => ?_⟩
  have s4 := Same.upd (o := HO.lst ((List.range ((w.length : Int) + 2 - ((k : Int) + 2)).toNat).map fun (j : Nat) => V.int ((k : Int) + 2 + (j : Int)))) n4
  refine ⟨p1, p4, _, _, rfl, rfl, s4 _ _ h1, upd_same, by simp; omega, fun p5 n5 => ?_⟩
  have s5 := Same.upd (o := HO.lst (((List.range ((k : Int)).toNat).map fun (j : Nat) => V.int (0 + (j : Int))) ++ (List.range ((w.length : Int) + 2 - ((k : Int) + 2)).toNat).map fun (j : Nat) => V.int ((k : Int) + 2 + (j : Int)))) n5
  have s15 := (s1.trans s4).trans s5
  refine ⟨d, c, p5, bs, os, _, inF k, rfl, hO1.same s15, hH.nd, hH.bl, by omega, upd_same, hH.pl hw fun i hi => in_at hk hi, hH.pb hw fun i j hi e => ?_, fun os1 H6 hO6 hmap hfr s6 => ?_⟩
  · unfold inF at e
    split at e <;> (cases e; omega)
  obtain ⟨f1, f2, f3⟩ := fac _ s15 os1 H6 hfr s6
  have hjl : j < os1.length := by
    have := congrArg List.length hmap
    rw [List.length_map, List.length_map] at this
    rw [this]
    exact (List.getElem?_eq_some_iff.mp ho).1
  have ho1 : os1[j]? = some os1[j] := List.getElem?_eq_getElem hjl
  generalize hoj : os1[j] = o1 at ho1
  have hp1 : prs o1 = renM c (inF k) (prs o) := by
    have := congrArg (fun l => l[j]?) hmap
    simp only [List.getElem?_map, ho1, ho] at this
    exact Option.some.inj this
  have hl1 : o1.ps.length = o.ps.length := by
    have := congrArg List.length hp1
    rw [renM_len_in] at this
    unfold prs at this
    rwa [List.length_map, List.length_map] at this
  have ho1m := List.mem_of_getElem? ho1
  have ho1O := hO6.ok o1 ho1m
  have dg1 : DGet H6 d (V.str (S [PyProof.Rows.lo1 x])) (some (.ref o1.o)) := by rw [<- ordK_get hH.nd hb ho1]; exact DGet.k (k := kS [PyProof.Rows.lo1 x]) hO6.dk
  refine ⟨_, rfl, _, rfl, rfl, x, rfl, rfl, hx.lt, d, _, rfl, dg1, .inl ⟨rfl, _, SqL.of ho1O.tp⟩, ?_⟩
  refine ⟨_, rfl, _, rfl, _, rfl, _, _, rfl, rfl, by show 2 <= sizeLine; decide, fun t1 nt1 => ?_⟩
  have ek : (k : Int) + 1 = ((k + 1 : Nat) : Int) := by omega
  rw [show (fun i j : Int => V.int (i + j)) (k : Int) 1 = V.int ((k + 1 : Nat) : Int) from congrArg V.int ek]
  have st1 := Same.upd (o := HO.tup [V.int c, V.int ((k + 1 : Nat) : Int)]) nt1
  have ht1 : upd H6 t1 (HO.tup [V.int c, V.int ((k + 1 : Nat) : Int)]) t1 = some (HO.tup [V.int c, V.int ((k + 1 : Nat) : Int)]) := upd_same
  have hO7 := hO6.same st1
  have tp7 := st1 _ _ ho1O.tp
  generalize upd H6 t1 (HO.tup [V.int c, V.int ((k + 1 : Nat) : Int)]) = H7 at st1 ht1 hO7 tp7 ⊢
  refine ⟨o1.o, _, n, _, rfl, rfl, tp7, by rw [prv_len]; omega, by rw [prv_len]; omega, ?_⟩
  rw [show (prv o1.ps).take n ++ V.ref t1 :: (prv o1.ps).drop n = prv (o1.ps.take n ++ (⟨t1, c, k + 1⟩ : Pr) :: o1.ps.drop n) from prv_ins o1.ps n ⟨t1, c, k + 1⟩]
  generalize hps1 : o1.ps.take n ++ (⟨t1, c, k + 1⟩ : Pr) :: o1.ps.drop n = ps1
  have hln1 : ps1.length = o1.ps.length + 1 := by rw [<- hps1]; simp; omega
  have hmem1 : ∀ p ∈ ps1, p ∈ o1.ps \/ p = ⟨t1, c, k + 1⟩ := fun p hp => by
    rw [<- hps1] at hp
    rcases List.mem_append.mp hp with g | g
    · exact .inl (List.mem_of_mem_take g)
    · rcases List.mem_cons.mp g with g | g
      · exact .inr g
      · exact .inl (List.mem_of_mem_drop g)
  have hok1 : ∀ p ∈ ps1, PrOk H7 p := fun p hp => by
    rcases hmem1 p hp with g | g
    · exact (hO7.ok o1 ho1m).pr p g
    · rw [g]; exact ⟨ht1, by show c < 1000; omega, by show k + 1 < 1000; omega⟩
  have hO8 := hO7.mut ho1 hok1 (by omega)
  have h8 : upd H7 o1.o (HO.lst (prv ps1)) o1.o = some (HO.lst (prv ps1)) := upd_same
  have s78 : SameB o1.o H7 (upd H7 o1.o (HO.lst (prv ps1))) := fun a u ea z => by rw [upd_ne z]; exact ea
  generalize upd H7 o1.o (HO.lst (prv ps1)) = H8 at hO8 h8 s78 ⊢
  have hset : (os1.set j ⟨o1.o, ps1⟩)[j]? = some ⟨o1.o, ps1⟩ := List.getElem?_set_self hjl
  have dg2 : DGet H8 d (V.str (S [PyProof.Rows.lo1 x])) (some (.ref o1.o)) := by rw [<- ordK_get hH.nd hb hset]; exact DGet.k (k := kS [PyProof.Rows.lo1 x]) hO8.dk
  refine ⟨_, rfl, _, rfl, rfl, x, rfl, rfl, hx.lt, d, _, rfl, dg2, .inl ⟨rfl, _, SqL.of h8⟩, ?_⟩
  refine ⟨_, rfl, _, rfl, _, rfl, by show 2 <= sizeLine; decide, fun t2 nt2 => ?_⟩
  have st2 := Same.upd (o := HO.tup [V.int c, V.int k]) nt2
  have ht2 : upd H8 t2 (HO.tup [V.int c, V.int k]) t2 = some (HO.tup [V.int c, V.int k]) := upd_same
  have hO9 := hO8.same st2
  have h9 := st2 _ _ h8
  generalize upd H8 t2 (HO.tup [V.int c, V.int k]) = H9 at st2 ht2 hO9 h9 ⊢
  refine ⟨o1.o, _, n, _, rfl, rfl, h9, by rw [prv_len]; omega, by rw [prv_len]; omega, ?_⟩
  rw [show (prv ps1).take n ++ V.ref t2 :: (prv ps1).drop n = prv (ps1.take n ++ (⟨t2, c, k⟩ : Pr) :: ps1.drop n) from prv_ins ps1 n ⟨t2, c, k⟩]
  have hok2 : ∀ p ∈ ps1.take n ++ (⟨t2, c, k⟩ : Pr) :: ps1.drop n, PrOk H9 p := fun p hp => by
    have old : ∀ p ∈ ps1, PrOk H9 p := fun p hp => (hO9.ok ⟨o1.o, ps1⟩ (List.mem_of_getElem? hset)).pr p hp
    rcases List.mem_append.mp hp with g | g
    · exact old p (List.mem_of_mem_take g)
    · rcases List.mem_cons.mp g with g | g
      · rw [g]; exact ⟨ht2, by show c < 1000; omega, by show k < 1000; omega⟩
      · exact old p (List.mem_of_mem_drop g)
  have hOA := hO9.mut hset hok2 (by simp; omega)
  rw [List.set_set] at hOA
  have e1 : ps1.take n = o1.ps.take n := by rw [<- hps1, List.take_append_of_le_length (by rw [List.length_take]; omega), List.take_take, Nat.min_self]
  have e2 : ps1.drop n = (⟨t1, c, k + 1⟩ : Pr) :: o1.ps.drop n := by
    rw [<- hps1, List.drop_append_of_le_length (by rw [List.length_take]; omega), List.drop_of_length_le (by rw [List.length_take]; omega)]
    rfl
  have hwo1 : wl ≠ o1.o := fun z => by have := f2 o1 ho1m; rw [<- z, hH.wd] at this; cases this
  refine q _ _ hOA ?_ ?_ (fun o' ho' => ?_) fun a u ea za zb => ?_
  · rw [List.map_set, hmap]
    congr 1
    unfold prs
    show (ps1.take n ++ (⟨t2, c, k⟩ : Pr) :: ps1.drop n).map Pr.pair = put2 n (c, k) (c, k + 1) (renM c (inF k) (prs o))
    rw [<- hp1, e1, e2]
    unfold put2 prs
    rw [List.map_append, List.map_cons, List.map_cons, List.map_take, List.map_drop]
    rfl
  · rw [upd_ne hwo1]; exact st2 _ _ (s78 _ _ (st1 _ _ f1) hwo1)
  · rcases List.mem_or_eq_of_mem_set ho' with g | g
    · exact f2 o' g
    · rw [g]; exact f2 o1 ho1m
  · have hne : a ≠ o1.o := ne_of_none ea (f2 o1 ho1m)
    rw [upd_ne hne]
    exact st2 _ _ (s78 _ _ (st1 _ _ (f3 a u ea za zb)) hne)
theorem ok_do_deed : FnOk P w K mg base CX0 3 f7 d7 ["yard", "words", "orders", "deed"] (sp_do_deed K) := by
  have G_do_swap := ok_do_swap (P := P) (w := w) (base := base) T
  have G_do_out := ok_do_out (P := P) (w := w) (base := base) T
  have G_do_turn := ok_do_turn (P := P) (w := w) (base := base) T
  have G_do_in := ok_do_in (P := P) (w := w) (base := base) T
  refine T.F7.fn.ok sc_do_deed (fun vs H Q E h => len_do_deed h) (fun cdv A outer s H vs Q E hr h => ?_)
  refine ⟨_, (pss_cons (ps_if (pt_cmpR op_eqS (pe_ix (ix_tupK K rfl) (pv 3) pe_int (fun _ _ => rfl)) (pe_S [115, 119, 97, 112] (by decide +kernel)) (nomark _)) (pss_one (ps_ret (pe_call G_do_swap (hr.mono (by decide)) rfl T.F3.mg T.F3.fn.kp T.F3.bd .nil pass0 (pa_cons (pv 2) (pa_cons (pe_ix (ix_tupK K rfl) (pv 3) pe_int (fun _ _ => rfl)) (pa_cons (pe_ix (ix_tupK K rfl) (pv 3) pe_int (fun _ _ => rfl)) pa_nil)))))) pss_nil)
      (pss_cons (ps_if (pt_not (pt_chain op_le op_lt pe_int (pe_ix (ix_tupK K rfl) (pv 3) pe_int (fun _ _ => rfl)) (pe_callB (call_len_seqK K rfl) rfl T.z_len PySem.boot_len (pa_cons (pv 1) pa_nil)))) (pss_one (ps_ret pe_bl)) pss_nil)
      (pss_cons (ps_if (pt_cmpR op_eqS (pe_ix (ix_tupK K rfl) (pv 3) pe_int (fun _ _ => rfl)) (pe_S [111, 117, 116] (by decide +kernel)) (nomark _)) (pss_one (ps_ret (pe_call G_do_out (hr.mono (by decide)) rfl T.F4.mg T.F4.fn.kp T.F4.bd .nil pass0 (pa_cons (pv 1) (pa_cons (pv 2) (pa_cons (pe_ix (ix_tupK K rfl) (pv 3) pe_int (fun _ _ => rfl)) (pa_cons (pe_ix (ix_tupK K rfl) (pv 3) pe_int (fun _ _ => rfl)) pa_nil))))))) pss_nil)
      (pss_cons (ps_if (pt_cmpR op_eqS (pe_ix (ix_tupK K rfl) (pv 3) pe_int (fun _ _ => rfl)) (pe_S [116, 117, 114, 110] (by decide +kernel)) (nomark _)) (pss_one (ps_ret (pe_call G_do_turn (hr.mono (by decide)) rfl T.F6.mg T.F6.fn.kp T.F6.bd .nil pass0 (pa_cons (pv 1) (pa_cons (pv 2) (pa_cons (pe_ix (ix_tupK K rfl) (pv 3) pe_int (fun _ _ => rfl)) pa_nil)))))) pss_nil)
      (pss_cons (ps_if (PW.pt (pw_and (pt_cmpR op_eqS (pe_ix (ix_tupK K rfl) (pv 3) pe_int (fun _ _ => rfl)) (pe_S [105, 110] (by decide +kernel)) (nomark _)) (pw_and1 (pt_cmpR (op_inK K rfl) (pe_ix (ix_tupK K rfl) (pv 3) pe_int (fun _ _ => rfl)) (pe_callTy (call_listS rfl) rfl T.z_list boot_list (pa_cons (pv 0) pa_nil)) (by with_unfolding_all rfl))))) (pss_one (ps_ret (pe_call G_do_in (hr.mono (by decide)) rfl T.F5.mg T.F5.fn.kp T.F5.bd .nil pass0 (pa_cons (pv 1) (pa_cons (pv 2) (pa_cons (pe_ix (ix_tupK K rfl) (pv 3) pe_int (fun _ _ => rfl)) (pa_cons (pe_ix (ix_tupK K rfl) (pv 3) pe_int (fun _ _ => rfl)) (pa_cons (pe_ix (ix_tupK K rfl) (pv 3) pe_int (fun _ _ => rfl)) (pa_cons (pe_ix (ix_tupK K rfl) (pv 3) pe_int (fun _ _ => rfl)) pa_nil))))))))) pss_nil)
      (pss_one (ps_ret pe_bl))))))), ?_⟩
  obtain ⟨y, d, wl, a, os, ws, e, rfl, hy, hz, hH, hlen, ha, hok, q⟩ := h
  have hs : (100000 : Nat) < sizeLine := by decide
  have hz4 := hH.wz
  cases e with
  | swap b n =>
    have h : H a = some (.tup [.str (S wSwap), .str (S [b]), .int n]) := ha
    obtain ⟨hb, hn⟩ := hok
    have hj := List.idxOf_lt_length_of_mem hb
    have hbj : (bsOf y)[(bsOf y).idxOf b]? = some b := by rw [List.getElem?_eq_getElem hj, List.getElem_idxOf hj]
    have hjo : (bsOf y).idxOf b < os.length := by rw [hH.od.ln]; exact hj
    have ho : os[(bsOf y).idxOf b]? = some (os[(bsOf y).idxOf b]) := List.getElem?_eq_getElem hjo
    generalize os[(bsOf y).idxOf b] = o at ho
    have eL : (os.map prs).getD ((bsOf y).idxOf b) [] = prs o := getD_of (by rw [List.getElem?_map, ho]; rfl)
    rw [eL] at hn
    refine ⟨_, rfl, a, _, 0, _, rfl, rfl, SqT.of h, rfl, _, _, rfl, rfl, _, rfl, iteY (by decide) ?_⟩
    refine ⟨_, rfl, _, rfl, a, _, 1, _, rfl, rfl, SqT.of h, rfl, _, rfl, a, _, 2, _, rfl, rfl, SqT.of h, rfl, ?_⟩
    refine ⟨d, bsOf y, os, b, _, n, o, rfl, hH.od, hH.nd, hH.bl, hbj, ho, by unfold prs at hn; rwa [List.length_map] at hn, fun H' hO' s' => ?_⟩
    have hom := List.mem_of_getElem? ho
    refine q _ H' hO' ?_ (s' _ _ hH.wd (Ne.symm (hH.ne o hom))) (fun o' ho' => .inr ?_) fun x u ex _ _ zx => s' x u ex fun z => zx (by rw [z]; exact List.mem_map.mpr ⟨o, hom, rfl⟩)
    · rw [List.map_set]
      show (os.map prs).set _ ((swapAt n o.ps).map Pr.pair) = (os.map prs).set _ (swapP n ((os.map prs).getD _ []))
      rw [eL, swap_prs]
      rfl
    · rcases List.mem_or_eq_of_mem_set ho' with g | g
      · exact List.mem_map.mpr ⟨o', g, rfl⟩
      · rw [g]; exact List.mem_map.mpr ⟨o, hom, rfl⟩
  | out c k =>
    have h : H a = some (.tup [.str (S wOut), .int c, .int k]) := ha
    obtain ⟨hc, x, hx0, hx1⟩ := hok
    have hw : ws[c]? = some ws[c] := List.getElem?_eq_getElem hc
    have ew := getD_of (x := []) hw
    generalize hwe : ws[c] = w at hw ew
    rw [ew] at hx0 hx1
    refine ⟨_, rfl, a, _, 0, _, rfl, rfl, SqT.of h, rfl, _, _, rfl, rfl, _, rfl, iteN (by decide) ?_⟩
    refine ⟨_, rfl, a, _, 1, _, rfl, rfl, SqT.of h, rfl, _, _, rfl, rfl, _, rfl, iteY (decide_eq_true (by omega)) ⟨_, rfl, wl, _, rfl, .inl (SqL.of hH.wd), _, _, rfl, rfl, _, rfl, iteN (by rw [txs_len, decide_eq_true (by omega)]; rfl) ?_⟩⟩
    refine ⟨_, rfl, a, _, 0, _, rfl, rfl, SqT.of h, rfl, _, _, rfl, rfl, _, rfl, iteY (by decide) ?_⟩
    refine ⟨_, rfl, _, rfl, _, rfl, a, _, 1, _, rfl, rfl, SqT.of h, rfl, _, rfl, a, _, 2, _, rfl, rfl, SqT.of h, rfl, ?_⟩
    refine ⟨d, wl, bsOf y, os, ws, c, k, w, x, rfl, hH, hw, hx0, hx1, fun os' H' g1 g2 g3 g4 g5 => ?_⟩
    refine q os' H' g1 ?_ ?_ (fun o ho => .inl (g4 o ho)) fun x u ex z1 z2 _ => g5 x u ex z1 z2
    · rw [g2]; show _ = (os.map prs).map (renM c (outF k)); rw [List.map_map]; rfl
    · show _ = some (HO.lst (txs (ws.set c ((ws.getD c []).take k ++ (ws.getD c []).drop (k + 2))))); rw [ew]; exact g3
  | turn c =>
    have h : H a = some (.tup [.str (S wTurn), .int c]) := ha
    have hc : c < ws.length := hok
    have hw : ws[c]? = some ws[c] := List.getElem?_eq_getElem hc
    have ew := getD_of (x := []) hw
    generalize hwe : ws[c] = w at hw ew
    refine ⟨_, rfl, a, _, 0, _, rfl, rfl, SqT.of h, rfl, _, _, rfl, rfl, _, rfl, iteN (by decide) ?_⟩
    refine ⟨_, rfl, a, _, 1, _, rfl, rfl, SqT.of h, rfl, _, _, rfl, rfl, _, rfl, iteY (decide_eq_true (by omega)) ⟨_, rfl, wl, _, rfl, .inl (SqL.of hH.wd), _, _, rfl, rfl, _, rfl, iteN (by rw [txs_len, decide_eq_true (by omega)]; rfl) ?_⟩⟩
    refine ⟨_, rfl, a, _, 0, _, rfl, rfl, SqT.of h, rfl, _, _, rfl, rfl, _, rfl, iteN (by decide) ?_⟩
    refine ⟨_, rfl, a, _, 0, _, rfl, rfl, SqT.of h, rfl, _, _, rfl, rfl, _, rfl, iteY (by decide) ?_⟩
    refine ⟨_, rfl, _, rfl, _, rfl, a, _, 1, _, rfl, rfl, SqT.of h, rfl, ?_⟩
    refine ⟨d, wl, bsOf y, os, ws, c, w, rfl, hH, hw, fun os' H' g1 g2 g3 g4 g5 => ?_⟩
    refine q os' H' g1 ?_ ?_ (fun o ho => .inl (g4 o ho)) fun x u ex z1 z2 _ => g5 x u ex z1 z2
    · rw [g2]; show _ = (os.map prs).map (renM c (turnF (ws.getD c []).length)); rw [ew, List.map_map]; rfl
    · show _ = some (HO.lst (txs (ws.set c ((ws.getD c []).drop 1 ++ (ws.getD c []).take 1)))); rw [ew]; exact g3
  | ins c k x n =>
    have h : H a = some (.tup [.str (S wIn), .int c, .int k, .str (S [x]), .int n]) := ha
    obtain ⟨hc, hk, hw10, hxy, hn⟩ := hok
    have hw : ws[c]? = some ws[c] := List.getElem?_eq_getElem hc
    have ew := getD_of (x := []) hw
    generalize hwe : ws[c] = w at hw ew
    rw [ew] at hk hw10
    have hb := lo_in hy hxy
    have hj := List.idxOf_lt_length_of_mem hb
    have hbj : (bsOf y)[(bsOf y).idxOf (PyProof.Rows.lo1 x)]? = some (PyProof.Rows.lo1 x) := by rw [List.getElem?_eq_getElem hj, List.getElem_idxOf hj]
    have hjo : (bsOf y).idxOf (PyProof.Rows.lo1 x) < os.length := by rw [hH.od.ln]; exact hj
    have ho : os[(bsOf y).idxOf (PyProof.Rows.lo1 x)]? = some (os[(bsOf y).idxOf (PyProof.Rows.lo1 x)]) := List.getElem?_eq_getElem hjo
    generalize os[(bsOf y).idxOf (PyProof.Rows.lo1 x)] = o at ho
    have eL : (os.map prs).getD ((bsOf y).idxOf (PyProof.Rows.lo1 x)) [] = prs o := getD_of (by rw [List.getElem?_map, ho]; rfl)
    rw [eL] at hn
    refine ⟨_, rfl, a, _, 0, _, rfl, rfl, SqT.of h, rfl, _, _, rfl, rfl, _, rfl, iteN (by decide) ?_⟩
    refine ⟨_, rfl, a, _, 1, _, rfl, rfl, SqT.of h, rfl, _, _, rfl, rfl, _, rfl, iteY (decide_eq_true (by omega)) ⟨_, rfl, wl, _, rfl, .inl (SqL.of hH.wd), _, _, rfl, rfl, _, rfl, iteN (by rw [txs_len, decide_eq_true (by omega)]; rfl) ?_⟩⟩
    refine ⟨_, rfl, a, _, 0, _, rfl, rfl, SqT.of h, rfl, _, _, rfl, rfl, _, rfl, iteN (by decide) ?_⟩
    refine ⟨_, rfl, a, _, 0, _, rfl, rfl, SqT.of h, rfl, _, _, rfl, rfl, _, rfl, iteN (by decide) ?_⟩
    refine ⟨_, rfl, a, _, 0, _, rfl, rfl, SqT.of h, rfl, _, _, rfl, rfl, _, rfl, iteY (by decide) ?_⟩
    refine ⟨_, rfl, a, _, 3, _, rfl, rfl, SqT.of h, rfl, _, rfl, y, rfl, by omega, fun p np => ?_⟩
    refine ⟨p, _, rfl, .inl (SqL.of upd_same), rfl, flat_sgs _, _, rfl, iteY (by show inV (.str (S [x])) (sgs y) = true; rw [inV_sgs]; exact decide_eq_true hxy) ?_⟩
    have sP := Same.upd (o := HO.lst (sgs y)) np
    have h1 := sP _ _ h
    have hH1 := hH.same sP
    refine ⟨_, rfl, _, rfl, _, rfl, a, _, 1, _, rfl, rfl, SqT.of h1, rfl, _, rfl, a, _, 2, _, rfl, rfl, SqT.of h1, rfl, _, rfl, a, _, 3, _, rfl, rfl, SqT.of h1, rfl, _, rfl, a, _, 4, _, rfl, rfl, SqT.of h1, rfl, ?_⟩
    have hol := hlen o (List.mem_of_getElem? ho)
    refine ⟨d, wl, bsOf y, os, ws, c, k, n, _, w, x, o, rfl, hH1, hw, hk, hy.lt x hxy, hbj, ho, by unfold prs at hn; rwa [List.length_map] at hn, hol, fun os' H' g1 g2 g3 g4 g5 => ?_⟩
    refine q os' H' g1 ?_ ?_ (fun o ho => .inl (Same.free sP (g4 o ho))) fun x u ex z1 z2 _ => g5 x u (sP x u ex) z1 z2
    · rw [g2]
      show _ = ((os.map prs).map (renM c (inF k))).set _ (put2 n (c, k) (c, k + 1) (renM c (inF k) ((os.map prs).getD _ [])))
      rw [eL, List.map_map]
      rfl
    · show _ = some (HO.lst (txs (ws.set c ((ws.getD c []).take k ++ [x] ++ [ctr x] ++ (ws.getD c []).drop k)))); rw [ew]; exact g3
theorem ok_done : FnOk P w K mg base CX0 4 f8 d8 ["yard", "drawing", "deeds"] (sp_done K) := by
  have G_bands := ok_bands (P := P) (w := w) (base := base) T
  have G_do_deed := ok_do_deed (P := P) (w := w) (base := base) T
  refine T.F8.fn.ok sc_done (fun vs H Q E h => len_done h) (fun cdv A outer s H vs Q E hr h => ?_)
  refine ⟨_, (pss_cons (ps_set (i := 3) sc_done.nd rfl (Or.inl rfl) (pe_callTy (call_list_ofK K rfl) rfl T.z_list boot_list (pa_cons (pe_ix (ix_tupK K rfl) (pv 1) pe_int (fun _ _ => rfl)) pa_nil)))
      (pss_cons (ps_set (i := 4) sc_done.nd rfl (Or.inr rfl) pe_dnewK)
      (pss_cons (ps_for PassesOwn.never rfl (pi_zipST K rfl rfl T.z_zip (pa_cons (pe_call G_bands (hr.mono (by decide)) rfl T.F1.mg T.F1.fn.kp T.F1.bd .nil pass0 (pa_cons (pv 0) pa_nil)) (pa_cons (pe_ix (ix_tupK K rfl) (pv 1) pe_int (fun _ _ => rfl)) pa_nil))) (pg_tupK (n := 2) K rfl rfl (pgs_cons (pg_name (i := 5) sc_done.nd rfl (Or.inl rfl)) (pgs_cons (pg_name (i := 6) sc_done.nd rfl (Or.inl rfl)) pgs_nil))) (pss_one (ps_dput (hu_of hr) (pv 4) (pv 5) (pe_callTy (call_list_ofK K rfl) rfl T.z_list boot_list (pa_cons (pv 6) pa_nil)) rfl)))
      (pss_cons (ps_for PassesOwn.never rfl (pi_enumL K rfl rfl T.z_enumerate (pa_cons (pv 2) pa_nil)) (pg_tupK (n := 2) K rfl rfl (pgs_cons (pg_name (i := 7) sc_done.nd rfl (Or.inl rfl)) (pgs_cons (pg_name (i := 8) sc_done.nd rfl (Or.inl rfl)) pgs_nil))) (pss_one (ps_if (pt_not (pt_val (pe_call G_do_deed (hr.mono (by decide)) rfl T.F7.mg T.F7.fn.kp T.F7.bd .nil pass0 (pa_cons (pv 0) (pa_cons (pv 3) (pa_cons (pv 4) (pa_cons (pv 8) pa_nil))))))) (pss_one ps_never) pss_nil)))
      (pss_one (ps_ret (pe_tup (pa_cons (pe_callTy (call_tuple_ofK K rfl) rfl T.z_tuple boot_tuple (pa_cons (pv 3) pa_nil)) (pa_cons (pe_callTy (call_tuple_ofK K rfl) rfl T.z_tuple boot_tuple (pa_cons (pe_compB ["band", "orders"] [none, some 4] (pi_str (pe_call G_bands (hr.mono (by decide)) rfl T.F1.mg T.F1.fn.kp T.F1.bd .nil pass0 (pa_cons (pv 0) pa_nil))) ⟨⟨rfl, rfl, by first | exact .inl rfl | exact .inr rfl⟩, trivial⟩ (fun _ _ _ _ => (pg_name (i := 0) (by decide +kernel : List.Nodup (["band", "orders"] : List Str)) rfl (Or.inl rfl))) (fun _ _ _ _ => pf_nil) (fun _ _ _ _ => (pe_callTy (call_tuple_ofK K rfl) rfl T.z_tuple boot_tuple (pa_cons (pe_dget (hu_of hr) (pv 1) (pv 0) (fun _ _ => rfl)) pa_nil)))) pa_nil)) pa_nil))))))))), ?_⟩
  obtain ⟨y, dr, ws, os, ep, ds, rfl, hy, hz, hg, hd, hep, hds, hdl, hpath, q⟩ := h
  have hs : (100000 : Nat) < sizeLine := by decide
  have hbl := bsOf_len hy
  have hnd := bs_nd hy
  have hol : os.length = (bsOf y).length := by have := hg.lk.1; rwa [List.length_map] at this
  obtain ⟨⟨wt, ot, d1, d2, d3⟩, dO⟩ := id hd
  refine ⟨_, rfl, dr, _, 0, _, rfl, rfl, SqT.of d1, rfl, wt, _, rfl, .inr (SqT.of d2), fun wl nwl => ?_⟩
  have s1 := Same.upd (o := HO.lst (txs ws)) nwl
  have hwl : upd H wl (HO.lst (txs ws)) wl = some (HO.lst (txs ws)) := upd_same
  generalize upd H wl (HO.lst (txs ws)) = H1 at s1 hwl ⊢
  intro d nd
  have s2 := Same.upd (o := HO.dK []) nd
  have hd2 : upd H1 d (HO.dK []) d = some (HO.dK []) := upd_same
  have hwl2 := s2 _ _ hwl
  have ndH : H d = none := Same.free s1 nd
  have hdw : d ≠ wl := Ne.symm (ne_of_none hwl nd)
  have s12 := s1.trans s2
  generalize upd H1 d (HO.dK []) = H2 at s2 hd2 hwl2 s12 ⊢
  refine ⟨_, rfl, y, rfl, fun c hc => (hy.lt c hc).lt, by omega, fun l0 H3 hl0 hw0 s3 => ?_⟩
  have el := bsOf_eq hl0 hw0
  subst el
  have s13 := s12.trans s3
  have hd3 := s3 _ _ hd2
  have hwl3 := s3 _ _ hwl2
  refine ⟨_, rfl, dr, _, 1, _, rfl, rfl, SqT.of (s13 _ _ d1), rfl, ?_⟩
  refine ⟨_, ot, rfl, ⟨_, SqT.of (s13 _ _ d3)⟩, ?_⟩
  refine for_zip (Sq1 := SqSa (bsOf y)) (Sq2 := SqTa K ot) (xs := sgs (bsOf y)) (ys := odv os) (fun i σ H' => ∃ (bv ov : Option V) (cur : List Od), σ = [some (.str (S y)), some (.ref dr), some (.ref ep), some (.ref wl), some (.ref d), bv, ov, none, none] /\ cur.length = i /\ H' d = some (.dK (ordK ((bsOf y).take i) cur)) /\ (cur.map Od.o).Nodup /\ (∀ o ∈ cur, LdOk H' o) /\ cur.map prs = (os.take i).map prs /\ (∀ o ∈ cur, H3 o.o = none) /\ SameB d H3 H') (by rw [sgs_len, odv_len]; exact hol.symm)
    ⟨none, none, [], rfl, rfl, hd3, List.nodup_nil, by simp, rfl, by simp, SameB.refl _ _⟩ (fun i σ H' _ ⟨_, _, _, _, _, _, _, _, _, _, s⟩ => ⟨rfl, SqT.of (s _ _ (s13 _ _ d3) (ne_of_none d3 ndH))⟩) ?_ ?_
  · rintro i x z σ H4 T hx hzi ⟨bv, ov, cur, rfl, hcl, hd4, hcn, hco, hcp, hcf, s4⟩ nT
    obtain ⟨b, hb, rfl⟩ := sgs_get hx
    have hi : i < (bsOf y).length := (List.getElem?_eq_some_iff.mp hb).1
    have hio : i < os.length := by omega
    have hoi : os[i]? = some os[i] := List.getElem?_eq_getElem hio
    have hz2 : z = V.ref os[i].o := by rw [odv_at hoi] at hzi; exact (Option.some.inj hzi).symm
    subst hz2
    have hom : os[i] ∈ os := List.getElem_mem hio
    generalize os[i] = o at hoi hom
    have hok := dO o hom
    have sT := Same.upd (o := HO.tup [V.str (S [b]), V.ref o.o]) nT
    have hTd : T ≠ d := Ne.symm (ne_of_none hd4 nT)
    refine ⟨T, _, rfl, SqT.of upd_same, rfl, _, _, rfl, _, _, rfl, rfl, ?_⟩
    have ok4 : OdOk H4 o := ⟨s4 _ _ (s13 _ _ hok.tp) (ne_of_none hok.tp ndH), fun p hp => ⟨s4 _ _ (s13 _ _ (hok.pr p hp).tp) (ne_of_none (hok.pr p hp).tp ndH), (hok.pr p hp).cz, (hok.pr p hp).iz⟩, hok.fw⟩
    have ok5 := ok4.same sT
    have hd5 := sT _ _ hd4
    have hco5 : ∀ o ∈ cur, LdOk (upd H4 T (HO.tup [V.str (S [b]), V.ref o.o])) o -> True := fun _ _ _ => trivial
    refine ⟨_, rfl, o.o, _, rfl, .inr (SqT.of ok5.tp), fun p6 n6 => ?_⟩
    have s6 := Same.upd (o := HO.lst (prv o.ps)) n6
    have s46 := sT.trans s6
    have hd6 := s6 _ _ hd5
    have n64 : H4 p6 = none := Same.free sT n6
    have h6d : p6 ≠ d := Ne.symm (ne_of_none hd5 n6)
    have new6 : LdOk (upd (upd H4 T (HO.tup [V.str (S [b]), V.ref o.o])) p6 (HO.lst (prv o.ps))) ⟨p6, o.ps⟩ := ⟨upd_same, fun p hp => (ok5.pr p hp).same s6, ok5.fw⟩
    generalize upd (upd H4 T (HO.tup [V.str (S [b]), V.ref o.o])) p6 (HO.lst (prv o.ps)) = H6 at s6 s46 hd6 new6 ⊢
    have hnew : valV (ordK ((bsOf y).take i) cur) (kS [b]) = none := ordK_none fun m => by
      obtain ⟨k, hk, e⟩ := List.mem_iff_getElem.mp m
      rw [List.length_take] at hk
      rw [List.getElem_take] at e
      have := List.pairwise_iff_getElem.mp hnd k i (by omega) hi (by omega)
      rw [e, (List.getElem?_eq_some_iff.mp hb).2] at this
      exact this rfl
    have htl : ((bsOf y).take i).length = i := by rw [List.length_take]; omega
    refine ⟨_, rfl, _, rfl, d, _, rfl, DPut.k (k := kS [b]) hd6 (by rw [ordK_len (by omega)]; omega), ?_⟩
    rw [putK_new _ hnew]
    have eo : ordK ((bsOf y).take i) cur ++ [(kS [b], V.ref p6)] = ordK ((bsOf y).take (i + 1)) (cur ++ [⟨p6, o.ps⟩]) := by
      rw [<- take_snoc hb]
      exact ordK_snoc (o := ⟨p6, o.ps⟩) (by omega)
    rw [eo]
    have up : ∀ {x : Od}, LdOk H6 x -> x.o ≠ d -> LdOk (upd H6 d (.dK (ordK ((bsOf y).take (i + 1)) (cur ++ [⟨p6, o.ps⟩])))) x := fun {x} hx hne =>
      ⟨by rw [upd_ne hne]; exact hx.tp, fun p hp => ⟨by rw [upd_ne (fun z => by have := (hx.pr p hp).tp; rw [z, hd6] at this; cases this)]; exact (hx.pr p hp).tp, (hx.pr p hp).cz, (hx.pr p hp).iz⟩, hx.fw⟩
    refine ⟨_, _, cur ++ [⟨p6, o.ps⟩], rfl, by simp [hcl], upd_same, ?_, fun x hx => ?_, ?_, fun x hx => ?_, fun a u ea zz => ?_⟩
    · rw [List.map_append, List.nodup_append]
      refine ⟨hcn, by simp, fun a ha b' hb' e => ?_⟩
      obtain ⟨o', ho', rfl⟩ := List.mem_map.mp ha
      have e2 : b' = p6 := by simpa using hb'
      have := (hco o' ho').tp
      rw [e, e2, n64] at this
      cases this
    · rcases List.mem_append.mp hx with g | g
      · exact up ((hco x g).same s46) (fun zz => by have := (hco x g).tp; rw [zz, hd4] at this; cases this)
      · rw [List.mem_singleton.mp g]; exact up new6 h6d
    · rw [List.map_append, hcp, <- take_snoc hoi, List.map_append]; rfl
    · rcases List.mem_append.mp hx with g | g
      · exact hcf x g
      · rw [List.mem_singleton.mp g]; exact s4.none n64 h6d
    · rw [upd_ne zz]; exact s46 _ _ (s4 a u ea zz)
  · rintro σ H4 ⟨bv, ov, cur, rfl, hcl, hd4, hcn, hco, hcp, hcf, s4⟩
    rw [sgs_len] at hcl hd4 hcp
    rw [List.take_length] at hd4
    rw [<- hol, List.take_length] at hcp
    have hO4 : OrdAt H4 d (bsOf y) cur := ⟨hd4, hcl, hcn, hco⟩
    have hep4 : H4 ep = some (.lst (ddv ds)) := s4 _ _ (s13 _ _ hep) (ne_of_none hep ndH)
    have sH4 : Same H H4 := fun a u ea => s4 _ _ (s13 _ _ ea) (ne_of_none ea ndH)
    have hwl4 := s4 _ _ hwl3 (Ne.symm hdw)
    have hcf0 : ∀ o ∈ cur, H o.o = none := fun o ho => Same.free s13 (hcf o ho)
    refine ⟨_, rfl, ep, rfl, ⟨_, SqL.of hep4⟩, ?_⟩
    refine for_enumL (K := K) (a := ep) (xs := ddv ds) (fun i σ H' => ∃ (nv dv : Option V) (cu : List Od) (ws' : List (List Nat)), σ = [some (.str (S y)), some (.ref dr), some (.ref ep), some (.ref wl), some (.ref d), bv, ov, nv, dv] /\ OrdAt H' d (bsOf y) cu /\ H' wl = some (.lst (txs ws')) /\ Good y ws' (cu.map prs) /\ (∀ o ∈ cu, o.o ≠ wl) /\ (∀ o ∈ cu, H o.o = none) /\ Path y ws' (cu.map prs) ((ds.drop i).map Dd.e) /\ runD y ws' (cu.map prs) ((ds.drop i).map Dd.e) = runD y ws (os.map prs) (ds.map Dd.e) /\ Same H H')
      ⟨none, none, cur, ws, rfl, hO4, hwl4, by rw [hcp]; exact hg, fun o ho zz => absurd (hcf o ho) (by rw [zz, hwl3]; exact Option.some_ne_none _), hcf0, by rw [hcp]; exact hpath, by rw [hcp]; rfl, sH4⟩ (fun i σ H' _ ⟨_, _, _, _, _, _, _, _, _, _, _, _, s⟩ => SqL.of (s _ _ hep)) ?_ ?_
    · rintro i x σ H5 T hx ⟨nv, dv, cu, ws', rfl, hO5, hw5, hg5, hne5, hf5, hp5, hr5, s5⟩ nT
      obtain ⟨dd, hdd, rfl⟩ := ddv_at hx
      have hddm := List.mem_of_getElem? hdd
      have hi := List.getElem?_eq_some_iff.mp hdd
      have edr : (ds.drop i).map Dd.e = dd.e :: (ds.drop (i + 1)).map Dd.e := by rw [List.drop_eq_getElem_cons hi.1, hi.2]; rfl
      rw [edr] at hp5 hr5
      obtain ⟨hok, hp6⟩ := hp5
      have sT := Same.upd (o := HO.tup [V.int i, V.ref dd.a]) nT
      refine ⟨T, _, rfl, SqT.of upd_same, rfl, _, _, rfl, _, _, rfl, rfl, ?_⟩
      have hold := (hg5.hold hy hz hO5 hw5 hne5).same sT
      refine ⟨_, rfl, _, rfl, _, rfl, _, rfl, y, d, wl, dd.a, cu, ws', dd.e, rfl, hy, hz, hold, fun o ho => Nat.le_trans (hg5.len o ho) (by decide), (hds dd hddm).ts (TSame.of (s5.trans sT)), hok, fun os' H' g1 g2 g3 g4 g5 => ?_⟩
      refine ⟨_, rfl, iteN rfl ?_⟩
      have hwH : H wl = none := nwl
      have hg6 : Good y (dW ws' dd.e) (os'.map prs) := by rw [g2]; exact hg5.step hy hok
      have hfr : ∀ o ∈ os', H o.o = none := fun o ho => by
        rcases g4 o ho with g | g
        · exact Same.free (s5.trans sT) g
        · obtain ⟨o', ho', e⟩ := List.mem_map.mp g
          rw [<- e]; exact hf5 o' ho'
      refine ⟨_, _, os', dW ws' dd.e, rfl, g1, g3, hg6, fun o ho zz => ?_, hfr, by rw [g2]; exact hp6, by rw [g2]; exact hr5, fun a u ea => ?_⟩
      · rcases g4 o ho with g | g
        · rw [zz, hold.wd] at g; cases g
        · obtain ⟨o', ho', e⟩ := List.mem_map.mp g
          exact hne5 o' ho' (e.trans zz)
      · refine g5 a u (sT _ _ (s5 a u ea)) (ne_of_none ea ndH) (ne_of_none ea hwH) fun zz => ?_
        obtain ⟨o', ho', e⟩ := List.mem_map.mp zz
        have := hf5 o' ho'
        rw [e, ea] at this
        cases this
    · rintro σ H5 ⟨nv, dv, cu, ws', rfl, hO5, hw5, hg5, hne5, hf5, hp5, hr5, s5⟩
      rw [ddv_len, List.drop_length] at hr5
      have hr6 : (ws', cu.map prs) = runD y ws (os.map prs) (ds.map Dd.e) := hr5
      rw [<- hr6] at q
      have hcul := hO5.ln
      refine ⟨_, rfl, wl, _, rfl, .inl ⟨SqL.of hw5, fun tw ntw => ?_⟩⟩
      have sw := Same.upd (o := HO.tup (txs ws')) ntw
      have htw : upd H5 tw (HO.tup (txs ws')) tw = some (HO.tup (txs ws')) := upd_same
      have hO6 := hO5.same sw
      have s6 := s5.trans sw
      generalize upd H5 tw (HO.tup (txs ws')) = H6 at sw htw hO6 s6 ⊢
      refine ⟨_, rfl, y, rfl, fun c hc => (hy.lt c hc).lt, by omega, fun l0 H7 hl0 hw0 s7 => ?_⟩
      have el := bsOf_eq hl0 hw0
      subst el
      have hO7 := hO6.same s7
      have htw7 := s7 _ _ htw
      have s67 := s6.trans s7
      refine ⟨_, rfl, ?_⟩
      refine comp_fix (xs := sgs (bsOf y)) (fun i acc H' => Same H7 H' /\ ∃ oo : List Od, acc = odv oo /\ (∀ o ∈ oo, OdOk H' o) /\ oo.map prs = (cu.take i).map prs) (by rw [sgs_len]; omega) ⟨Same.refl _, [], rfl, fun _ h => absurd h List.not_mem_nil, rfl⟩ ?_ ?_
      · rintro i x acc H8 Nx hi hx hal ⟨s8, oo, rfl, hod, hoe⟩ nx
        obtain ⟨b, hb, rfl⟩ := sgs_get hx
        have hib : i < (bsOf y).length := (List.getElem?_eq_some_iff.mp hb).1
        have hoi : cu[i]? = some cu[i] := List.getElem?_eq_getElem (by omega)
        have hom : cu[i] ∈ cu := List.getElem_mem (by omega)
        generalize cu[i] = o at hoi hom
        have hO8 := hO7.same s8
        refine ⟨⟨rfl, trivial⟩, yes_ite ?_⟩
        refine ⟨_, rfl, _, rfl, d, _, rfl, by rw [<- ordK_get hnd hb hoi]; exact DGet.k (k := kS [b]) hO8.dk, ?_⟩
        have hlo := hO8.ok o hom
        refine ⟨o.o, _, rfl, .inl ⟨SqL.of hlo.tp, fun t nt => ?_⟩⟩
        refine nx _ _ (by simpa using hal) ⟨s8.trans (Same.upd nt), oo ++ [⟨t, o.ps⟩], odv_snoc oo ⟨t, o.ps⟩, fun o' ho => ?_, ?_⟩
        · rcases List.mem_append.mp ho with g | g
          · exact (hod o' g).same (Same.upd nt)
          · have e := List.mem_singleton.mp g
            subst e
            exact ⟨upd_same, fun p hp => (hlo.pr p hp).same (Same.upd nt), hlo.fw⟩
        · rw [List.map_append, hoe, <- take_snoc hoi, List.map_append]
          rfl
      · rintro acc H8 D hal ⟨s8, oo, rfl, hod, hoe⟩ hD
        rw [sgs_len, <- hcul, List.take_length] at hoe
        refine ⟨D, _, rfl, .inl ⟨SqL.of upd_same, fun t nt => ?_⟩⟩
        refine ⟨by show 2 <= sizeLine; decide, fun dr' ndr => ?_⟩
        have sA := (Same.upd (o := .lst (odv oo)) hD).trans ((Same.upd (o := .tup (odv oo)) nt).trans (Same.upd (o := .tup [.ref tw, .ref t]) ndr))
        have htd : t ≠ dr' := fun z => by rw [<- z, upd_same] at ndr; cases ndr
        exact q dr' oo _ ⟨⟨tw, t, upd_same, sA _ _ (s8 _ _ htw7), by rw [upd_ne htd, upd_same]⟩, fun o ho => (hod o ho).same sA⟩ hoe (by rw [hoe]; exact hg5) ((s67.trans s8).trans sA)
theorem ok_Lother : FnOk P w K mg base CX0 1 f23 d23 ["_law_letter"] (sp_Lother K) := by
  refine T.F23.fn.ok sc_Lother (fun vs H Q E h => len_Lother h) (fun cdv A outer s H vs Q E hr h => ?_)
  refine ⟨_, (pss_cons (ps_set (i := 1) sc_Lother.nd rfl (Or.inl rfl) (pe_S [97, 98, 99, 100, 101, 102, 103, 104, 105, 106, 107, 108, 109, 110, 111, 112, 113, 114, 115, 116, 117, 118, 119, 120, 121, 122] (by decide +kernel)))
      (pss_cons (ps_set (i := 2) sc_Lother.nd rfl (Or.inl rfl) (pe_S [65, 66, 67, 68, 69, 70, 71, 72, 73, 74, 75, 76, 77, 78, 79, 80, 81, 82, 83, 84, 85, 86, 87, 88, 89, 90] (by decide +kernel)))
      (pss_cons (ps_if (pt_cmpR op_inS (pv 0) (pv 1) (by with_unfolding_all rfl)) (pss_one (ps_ret (pe_ix ix_S (pv 2) (pe_bmK K rfl PySem.F.plainAttrs_str PySem.F.slot_str_index PySem.F.type_str_index mt_indexS (pv 1) (pa_cons (pv 0) pa_nil)) (fun _ _ => rfl)))) pss_nil)
      (pss_one (ps_ret (pe_ix ix_S (pv 1) (pe_bmK K rfl PySem.F.plainAttrs_str PySem.F.slot_str_index PySem.F.type_str_index mt_indexS (pv 2) (pa_cons (pv 0) pa_nil)) (fun _ _ => rfl))))))), ?_⟩
  obtain ⟨c, rfl, hc, q⟩ := h
  refine ⟨_, rfl, _, rfl, c, smalls, rfl, rfl, _, rfl, ite2 (fun e => ?_) (fun e => ?_)⟩
  · have hm : c ∈ smalls := of_decide_eq_true e
    exact ⟨_, rfl, _, rfl, rfl, _, rfl, smalls, c, rfl, rfl, hm, caps, _, ctr c, rfl, rfl, by decide, other_small c hm, q⟩
  · have hm : c ∈ caps := hc.resolve_left fun z => e (decide_eq_true z)
    exact ⟨_, rfl, _, rfl, rfl, _, rfl, caps, c, rfl, rfl, hm, smalls, _, ctr c, rfl, rfl, by decide, other_cap c hm, q⟩
theorem ok_Lring : FnOk P w K mg base CX0 2 f30 d30 ["_law_word_here"] (sp_Lring K) := by
  have G_Lother := ok_Lother (P := P) (w := w) (base := base) T
  refine T.F30.fn.ok sc_Lring (fun vs H Q E h => len_Lring h) (fun cdv A outer s H vs Q E hr h => ?_)
  refine ⟨_, (pss_cons (ps_set (i := 1) sc_Lring.nd rfl (Or.inr rfl) (pe_lst pa_nil))
      (pss_cons (ps_for PassesOwn.never rfl (pi_str (pv 0)) (pg_name (i := 2) sc_Lring.nd rfl (Or.inl rfl)) (pss_cons (ps_expr (pe_bmK K rfl PySem.F.plainAttrs_list PySem.F.slot_list_append PySem.F.type_list_append mt_append (pv 1) (pa_cons (pv 2) pa_nil)))
      (pss_one (ps_if (PW.pt (pw_and (pt_cmpR op_gt (pe_callB (call_len_seqK K rfl) rfl T.z_len PySem.boot_len (pa_cons (pv 1) pa_nil)) pe_int (nomark _)) (pw_and1 (pt_cmpR op_eqS (pe_ix (ix_listK K rfl) (pv 1) (pe_un un_neg pe_int) (fun _ _ => rfl)) (pe_call G_Lother (hr.mono (by decide)) rfl T.F23.mg T.F23.fn.kp T.F23.bd .nil pass0 (pa_cons (pv 2) pa_nil)) (nomark _))))) (pss_one (ps_set (i := 1) sc_Lring.nd rfl (Or.inr rfl) (pe_slice (sl_listK K rfl) (pv 1) po_none (po_some (pe_un un_neg pe_int))))) pss_nil))))
      (pss_cons (ps_whileN PassesOwn.never (PW.pt (pw_and (pt_cmpR op_gt (pe_callB (call_len_seqK K rfl) rfl T.z_len PySem.boot_len (pa_cons (pv 1) pa_nil)) pe_int (nomark _)) (pw_and1 (pt_cmpR op_eqS (pe_ix (ix_listK K rfl) (pv 1) pe_int (fun _ _ => rfl)) (pe_call G_Lother (hr.mono (by decide)) rfl T.F23.mg T.F23.fn.kp T.F23.bd .nil pass0 (pa_cons (pe_ix (ix_listK K rfl) (pv 1) (pe_un un_neg pe_int) (fun _ _ => rfl)) pa_nil)) (nomark _))))) (pss_one (ps_set (i := 1) sc_Lring.nd rfl (Or.inr rfl) (pe_slice (sl_listK K rfl) (pv 1) (po_some pe_int) (po_some (pe_un un_neg pe_int))))))
      (pss_one (ps_ret (pe_callB (call_minLS K rfl rfl) rfl T.z_min boot_min (pa_cons (pe_compB ["_law_k", "_law_left"] [none, some 1] (pi_range1 rfl T.z_range (pa_cons (pe_callB (call_max2 rfl) rfl T.z_max boot_max (pa_cons pe_int (pa_cons (pe_callB (call_len_seqK K rfl) rfl T.z_len PySem.boot_len (pa_cons (pv 1) pa_nil)) pa_nil))) pa_nil)) ⟨⟨rfl, rfl, by first | exact .inl rfl | exact .inr rfl⟩, trivial⟩ (fun _ _ _ _ => (pg_name (i := 0) (by decide +kernel : List.Nodup (["_law_k", "_law_left"] : List Str)) rfl (Or.inl rfl))) (fun _ _ _ _ => pf_nil) (fun _ _ _ _ => (pe_bmK K rfl PySem.F.plainAttrs_str PySem.F.slot_str_join PySem.F.type_str_join (mt_joinK K rfl) (pe_S [] (by decide +kernel)) (pa_cons (pe_op op_cat (pe_slice (sl_listK K rfl) (pv 1) (po_some (pv 0)) po_none) (pe_slice (sl_listK K rfl) (pv 1) po_none (po_some (pv 0)))) pa_nil)))) pa_nil))))))), ?_⟩
  obtain ⟨l, rfl, hl, hz, q⟩ := h
  have hs : (100000 : Nat) < sizeLine := by decide
  (repeat (first | refine ⟨_, rfl, ?_⟩ | refine ⟨_, _, rfl, rfl, ?_⟩ | refine ⟨rfl, ?_⟩ | refine And.intro (by first | decide | omega | assumption | exact Nat.le_of_ble_eq_true rfl | exact .inl ⟨by decide, by decide⟩ | exact .inr ⟨by decide, by decide⟩ | exact ⟨by decide, by decide⟩ | exact ⟨by omega, by omega⟩) ?_))
  intro p1 n1
  refine ⟨_, rfl, l, rfl, ?_⟩
  refine for_fix (xs := sgs l) (fun i σ H' => ∃ (lv : Option V) (p : Addr), σ = [some (.str (S l)), some (.ref p), lv] /\ H' p = some (.lst (sgs (red (l.take i)))) /\ H p = none /\ Same H H') ⟨none, p1, rfl, upd_same, n1, Same.upd n1⟩ ?_ ?_
  · rintro i x σ H1 hx ⟨lv, p, rfl, hp, hpn, s1⟩
    obtain ⟨c, hc, rfl⟩ := sgs_get hx
    have hi : i < l.length := (List.getElem?_eq_some_iff.mp hc).1
    have hcl : Lt c := hl c (List.mem_of_getElem? hc)
    have hrl : (red (l.take i)).length <= 1000 := Nat.le_trans (red_len _) (by rw [List.length_take]; omega)
    refine ⟨_, rfl, .inl ⟨rfl, _, SqL.of hp⟩, _, rfl, p, _, _, rfl, rfl, hp, by rw [sgs_len]; omega, ?_⟩
    rw [sgs_snoc]
    have hp2 : (upd H1 p (.lst (sgs (red (l.take i) ++ [c])))) p = some (.lst (sgs (red (l.take i) ++ [c]))) := upd_same
    have s2 : Same H (upd H1 p (.lst (sgs (red (l.take i) ++ [c])))) := fun b o e => by rw [upd_ne (ne_of_none e hpn)]; exact s1 b o e
    generalize upd H1 p (.lst (sgs (red (l.take i) ++ [c]))) = H2 at hp2 s2 ⊢
    refine ⟨_, rfl, p, _, rfl, .inl (SqL.of hp2), _, _, rfl, rfl, _, rfl, ?_⟩
    rw [sgs_len]
    rcases snoc_cases (red (l.take i)) with e | ⟨m, a, e⟩
    · rw [e] at hp2
      refine iteN (by rw [e]; rfl) ?_
      refine iteF ?_
      refine ⟨_, p, rfl, ?_, hpn, s2⟩
      rw [hp2, red_take hc, e]
      unfold rstep
      rw [if_neg (by simp)]
    · rw [e] at hp2 hrl
      rw [List.append_assoc] at hp2
      have em : sgs (m ++ ([a] ++ [c])) = sgs m ++ [V.str (S [a]), V.str (S [c])] := by unfold sgs; rw [List.map_append]; rfl
      refine iteY (decide_eq_true (by rw [e]; simp; omega)) ?_
      refine ⟨_, rfl, _, rfl, p, _, _, _, rfl, rfl, SqL.of hp2, by rw [em]; exact atI_m2 _ _ _, _, rfl, c, rfl, hcl, [a], [ctr c], rfl, rfl, _, rfl, ite2 (fun z => ?_) (fun z => ?_)⟩
      · have ea : a = ctr c := by simpa using of_decide_eq_true z
        refine ⟨_, rfl, _, rfl, _, rfl, p, _, rfl, SqL.of hp2, fun p3 n3 => ?_⟩
        refine ⟨_, p3, rfl, ?_, Same.free s2 n3, s2.trans (Same.upd n3)⟩
        rw [upd_same, cut_sgs, red_take hc, e]
        show some (HO.lst (sgs (cut (m ++ [a, c]) none (some (-2))))) = _
        rw [cut_init2]
        unfold rstep
        rw [if_pos (by simp [ea]), List.dropLast_concat]
      · have ea : a ≠ ctr c := fun w => z (decide_eq_true (by rw [w]))
        refine ⟨_, p, rfl, ?_, hpn, s2⟩
        rw [hp2, red_take hc, e]
        unfold rstep
        rw [if_neg (by simpa using ea), List.append_assoc]
  · rintro σ H1 ⟨lv, p, rfl, hp, hpn, s1⟩
    rw [sgs_take] at hp
    have hr1 := red_len l
    have hlt := red_lt hl
    unfold ringM ringC at q
    generalize red l = r at hp hr1 hlt q
    refine ⟨fun k σ H' => ∃ (p : Addr) (r' : List Nat), σ = [some (.str (S l)), some (.ref p), lv] /\ H' p = some (.lst (sgs r')) /\ k = r'.length /\ core r' = core r /\ r'.length <= r.length /\ (∀ c ∈ r', Lt c) /\ H p = none /\ Same H H', ⟨_, p, r, rfl, hp, rfl, rfl, Nat.le_refl _, hlt, hpn, s1⟩, ?_⟩
    clear hp hpn s1
    rintro k σ H2 ⟨p, c, rfl, hp, rfl, hc, hcl, hlt', hpn, s2⟩
    have fin : core c = c -> tRet
                        (tCB (rMinL K)
                          (tCons
                            (tComp
                              (iRng1
                                (tCons
                                  (tCB
                                    (fun xs H Q =>
                                      ∃ i j, xs = [V.int i, V.int j] /\ Q (V.int (if j > i then j else i)) H)
                                    (tCons (tC (V.int 1)) (tCons (tCB (rLenL K) (tCons (tVar 1) tNil)) tNil)))
                                  tNil))
                              [none, some 1] (gName 0) tYes
                              (tBM K "str" (rJoinS K) (tC (V.str (S [])))
                                (tCons
                                  (tOp rCat (tSl (rSlL K) (tVar 1) (tPart (tVar 0)) tNoPart)
                                    (tSl (rSlL K) (tVar 1) tNoPart (tPart (tVar 0))))
                                  tNil)))
                            tNil)) { nx := fun x H' => Q V.non H', rt := Q } [some (.str (S l)), some (.ref p), lv] H2 := fun z => by
      rw [z] at hc
      rw [<- hc] at q
      have hcz : c.length <= 1000 := by omega
      refine ⟨_, rfl, p, _, rfl, .inl (SqL.of hp), _, _, rfl, ?_⟩
      rw [sgs_len]
      have hmx : (if (c.length : Int) > 1 then (c.length : Int) else 1) = ((max 1 c.length : Nat) : Int) := by split <;> omega
      refine ⟨_, rfl, ?_⟩
      rw [hmx, Int.toNat_natCast]
      refine ⟨by omega, by omega, ?_⟩
      refine comp_rng (fun i acc H' => Same H2 H' /\ acc = txs ((List.range i).map (rot c))) (by omega) ⟨Same.refl _, rfl⟩ ?_ ?_
      · rintro i acc H3 Nx hi hal ⟨s3, rfl⟩ nx
        refine ⟨⟨rfl, trivial⟩, yes_ite ?_⟩
        refine ⟨rfl, _, rfl, _, rfl, _, rfl, p, _, rfl, SqL.of (s3 _ _ hp), fun p3 n3 => ?_⟩
        refine ⟨_, rfl, _, rfl, _, rfl, p, _, rfl, SqL.of (Same.upd n3 _ _ (s3 _ _ hp)), fun p4 n4 => ?_⟩
        rw [cut_sgs, cut_sgs, Int.zero_add, cut_to, cut_from] at *
        have h34 : p3 ≠ p4 := fun z => by rw [<- z, upd_same] at n4; cases n4
        refine ⟨p3, p4, _, _, rfl, rfl, by rw [upd_ne h34]; exact upd_same, upd_same, by rw [sgs_len, sgs_len, List.length_drop, List.length_take]; omega, fun p5 n5 => ?_⟩
        refine ⟨p5, (rot c i).map fun x => [x], rfl, rfl, SqL.of (by rw [upd_same, <- sgs_lists]; unfold rot sgs; rw [List.map_append]), by rw [sum1, rot_len]; omega, ?_⟩
        rw [flat1]
        refine nx _ _ (by simpa using hal) ⟨((s3.trans (Same.upd n3)).trans (Same.upd n4)).trans (Same.upd n5), ?_⟩
        rw [txs_snoc, List.range_succ, List.map_append]
        rfl
      · rintro acc H3 D hal ⟨s3, rfl⟩ hD
        rw [rots_all (by omega)] at *
        have e : max 1 c.length - 1 = c.length - 1 := by omega
        rw [e]
        exact ⟨D, c, _, rfl, SqL.of upd_same, q _ ((s2.trans s3).trans (Same.upd hD))⟩
    refine ⟨_, rfl, p, _, rfl, .inl (SqL.of hp), _, _, rfl, rfl, _, rfl, ?_⟩
    rw [sgs_len]
    refine ite2 (fun z => ?_) (fun z => ?_)
    · have z1 : (1 : Int) < (c.length : Int) := of_decide_eq_true z
      obtain ⟨a, mm, yy, he⟩ := ends2 (l := c) (by omega)
      subst he
      have hyl : Lt yy := hlt' yy (by simp)
      have e1 : sgs (a :: (mm ++ [yy])) = (V.str (S [a]) :: sgs mm) ++ [V.str (S [yy])] := by unfold sgs; simp
      refine ⟨_, rfl, p, _, _, _, rfl, rfl, SqL.of hp, atI_nat (j := 0) rfl, _, rfl, _, rfl, p, _, _, _, rfl, rfl, SqL.of hp, by rw [e1]; exact atI_last _ _, yy, rfl, hyl, [a], [ctr yy], rfl, rfl, _, rfl, ite2 (fun v => ?_) (fun v => ?_)⟩
      · have ey : a = ctr yy := by simpa using of_decide_eq_true v
        refine ⟨_, rfl, _, rfl, _, rfl, _, rfl, p, _, rfl, SqL.of hp, fun p3 n3 => ?_⟩
        refine ⟨mm.length, by simp; omega, p3, mm, rfl, ?_, rfl, by rw [<- hc, core_go ey], by simp at hcl; omega, fun x hx => hlt' x (by simp [hx]), Same.free s2 n3, s2.trans (Same.upd n3)⟩
        rw [upd_same, cut_sgs]
        show some (HO.lst (sgs (cut (a :: (mm ++ [yy])) (some 1) (some (-1))))) = _
        rw [cut_mid1]
      · have ey : a ≠ ctr yy := fun w => v (decide_eq_true (by rw [w]))
        exact fin (core_stop ey)
    · have z1 : ¬ (1 : Int) < (c.length : Int) := fun w => z (decide_eq_true w)
      exact fin (core_short (by omega))
theorem ok_pairs_out : FnOk P w K mg base CX0 2 f13 d13 ["word"] (sp_pairs_out K) := by
  have G_contrary := ok_contrary (P := P) (w := w) (base := base) T
  refine T.F13.fn.ok sc_pairs_out (fun vs H Q E h => len_pairs_out h) (fun cdv A outer s H vs Q E hr h => ?_)
  refine ⟨_, (pss_cons (ps_set (i := 1) sc_pairs_out.nd rfl (Or.inl rfl) (pe_lst pa_nil))
      (pss_cons (ps_set (i := 2) sc_pairs_out.nd rfl (Or.inl rfl) pe_int)
      (pss_cons (ps_whileN PassesOwn.never (pt_cmpR op_lt (pv 2) (pe_op op_sub (pe_callB call_lenS rfl T.z_len PySem.boot_len (pa_cons (pv 0) pa_nil)) pe_int) (nomark _)) (pss_one (ps_if (pt_cmpR op_eqS (pe_ix ix_S (pv 0) (pe_op op_add (pv 2) pe_int) (fun _ _ => rfl)) (pe_call G_contrary (hr.mono (by decide)) rfl T.F0.mg T.F0.fn.kp T.F0.bd .nil pass0 (pa_cons (pe_ix ix_S (pv 0) (pv 2) (fun _ _ => rfl)) pa_nil)) (nomark _)) (pss_cons (ps_expr (pe_bmK K rfl PySem.F.plainAttrs_list PySem.F.slot_list_append PySem.F.type_list_append mt_append (pv 1) (pa_cons (pe_tup (pa_cons (pv 2) (pa_cons (pe_ix ix_S (pv 0) (pv 2) (fun _ _ => rfl)) pa_nil))) pa_nil)))
      (pss_cons (ps_set (i := 0) sc_pairs_out.nd rfl (Or.inl rfl) (pe_op op_addS (pe_slice sl_S (pv 0) po_none (po_some (pv 2))) (pe_slice sl_S (pv 0) (po_some (pe_op op_add (pv 2) pe_int)) po_none)))
      (pss_one (ps_set (i := 2) sc_pairs_out.nd rfl (Or.inl rfl) (pe_callB (call_max2 rfl) rfl T.z_max boot_max (pa_cons (pe_op op_sub (pv 2) pe_int) (pa_cons pe_int pa_nil))))))) (pss_one (ps_aug (i := 2) sc_pairs_out.nd rfl (Or.inl rfl) pe_int ip_add)))))
      (pss_one (ps_ret (pv 1)))))), ?_⟩
  obtain ⟨w, rfl, hw, hz, q⟩ := h
  have hs : (100000 : Nat) < sizeLine := by decide
  (repeat (first | refine ⟨_, rfl, ?_⟩ | refine ⟨_, _, rfl, rfl, ?_⟩ | refine ⟨_, _, _, rfl, rfl, by first | assumption | omega, by assumption, ?_⟩ | refine ⟨rfl, ?_⟩ | refine And.intro (by first | decide | omega | assumption | exact Nat.le_of_ble_eq_true rfl | exact .inl ⟨by decide, by decide⟩ | exact .inr ⟨by decide, by decide⟩ | exact ⟨by decide, by decide⟩ | exact ⟨by omega, by omega⟩) ?_))
  intro t nt
  have s1 := Same.upd (o := HO.lst []) nt
  have ht1 : upd H t (HO.lst []) t = some (HO.lst []) := upd_same
  generalize upd H t (HO.lst []) = H1 at s1 ht1 ⊢
  refine ⟨fun m σ H' => ∃ (u : List Nat) (p : Nat) (ps : List Pq), σ = [some (.str (S u)), some (.ref t), some (.int p)] /\ m = 2 * u.length + 1 - p /\ p <= u.length /\ (∀ k, k < p -> ¬ Spot u k) /\ Outs w (ps.map Pq.pr) u /\ H' t = some (.lst (pqv ps)) /\ (∀ p ∈ ps, PqOk H' p) /\ Same H H',
    ⟨_, w, 0, [], rfl, rfl, Nat.zero_le _, fun k hk => by omega, .nil, ht1, fun _ h => absurd h List.not_mem_nil, s1⟩, ?_⟩
  rintro m σ H2 ⟨u, p, ps, rfl, rfl, hp, hno, ho, ht2, hps, s2⟩
  have hul := ho.len
  have hmem := ho.mem
  have hult : ∀ c ∈ u, Lt c := fun c hc => hw c (hmem c hc)
  have huz : u.length <= sizeLine := by omega
  have hpl : ps.length <= 6 := by rw [List.length_map] at hul; omega
  refine ⟨_, rfl, _, rfl, u, rfl, huz, _, _, rfl, rfl, _, _, rfl, rfl, _, rfl, ite2 (fun z => ?_) (fun z => ?_)⟩
  · have z1 : (p : Int) < (u.length : Int) - 1 := of_decide_eq_true z
    have hp1 : p + 1 < u.length := by omega
    have e0 : u[p]? = some (u[p]'(by omega)) := List.getElem?_eq_getElem (by omega)
    have e1 : u[p + 1]? = some u[p + 1] := List.getElem?_eq_getElem hp1
    generalize (u[p]'(by omega)) = a at e0
    generalize u[p + 1] = b at e1
    have ha := hult a (List.mem_of_getElem? e0)
    have hb := hult b (List.mem_of_getElem? e1)
    have ep : (p : Int) + 1 = ((p + 1 : Nat) : Int) := by omega
    refine ⟨_, rfl, _, rfl, _, _, rfl, rfl, u, _, _, rfl, rfl, huz, by rw [ep]; exact atI_nat e1, ?_⟩
    refine ⟨_, rfl, _, rfl, u, _, _, rfl, rfl, huz, atI_nat e0, a, rfl, ha.lt, [b], [ctr a], rfl, rfl, _, rfl, ite2 (fun y => ?_) (fun y => ?_)⟩
    · have ey : b = ctr a := by simpa using of_decide_eq_true y
      subst ey
      refine ⟨_, rfl, .inl ⟨rfl, _, SqL.of ht2⟩, _, rfl, _, rfl, _, rfl, u, _, _, rfl, rfl, huz, atI_nat e0, by show 2 <= sizeLine; decide, fun t1 nt1 => ?_⟩
      have s3 := Same.upd (o := HO.tup [V.int p, V.str (S [a])]) nt1
      have ht3 := s3 _ _ ht2
      refine ⟨t, _, _, rfl, rfl, ht3, by rw [pqv_len]; omega, ?_⟩
      rw [show pqv ps ++ [V.ref t1] = pqv (ps ++ [⟨t1, p, a⟩]) from pqv_snoc ps ⟨t1, p, a⟩]
      have hps4 : ∀ x ∈ ps ++ [(⟨t1, p, a⟩ : Pq)], PqOk (upd (upd H2 t1 (HO.tup [V.int p, V.str (S [a])])) t (HO.lst (pqv (ps ++ [⟨t1, p, a⟩])))) x := fun x hx => by
        have tU := TSame.updL (o := HO.lst (pqv (ps ++ [⟨t1, p, a⟩]))) ht3
        rcases List.mem_append.mp hx with g | g
        · exact tU _ _ (s3 _ _ (hps x g))
        · rw [List.mem_singleton.mp g]; exact tU _ _ upd_same
      have s4 : Same H (upd (upd H2 t1 (HO.tup [V.int p, V.str (S [a])])) t (HO.lst (pqv (ps ++ [⟨t1, p, a⟩])))) := fun x o ex => by rw [upd_ne (ne_of_none ex nt)]; exact s3 _ _ (s2 _ _ ex)
      have ht4 : upd (upd H2 t1 (HO.tup [V.int p, V.str (S [a])])) t (HO.lst (pqv (ps ++ [⟨t1, p, a⟩]))) t = _ := upd_same
      generalize upd (upd H2 t1 (HO.tup [V.int p, V.str (S [a])])) t (HO.lst (pqv (ps ++ [⟨t1, p, a⟩]))) = H4 at hps4 s4 ht4 ⊢
      have ep2 : (p : Int) + 2 = ((p + 2 : Nat) : Int) := by omega
      have hl := out_len e1
      refine ⟨_, rfl, _, rfl, _, rfl, u, rfl, huz, _, rfl, _, rfl, _, _, rfl, rfl, _, rfl, u, rfl, huz, _, _, rfl, rfl, ?_, ?_⟩
      · rw [cut_k, ep2, cut_from, <- List.length_append]; omega
      rw [cut_k, ep2, cut_from]
      refine ⟨_, rfl, _, _, rfl, rfl, _, _, rfl, ?_⟩
      have em : (if (0 : Int) > (p : Int) - 1 then (0 : Int) else (p : Int) - 1) = ((p - 1 : Nat) : Int) := by split <;> omega
      rw [em]
      refine ⟨_, ?_, u.take p ++ u.drop (p + 2), p - 1, ps ++ [⟨t1, p, a⟩], rfl, rfl, by omega, fun k hk sp => ?_, by rw [List.map_append]; exact ho.snoc e0 e1, ht4, hps4, s4⟩
      · omega
      · obtain ⟨c, d, g1, g2, g3⟩ := sp
        rw [List.getElem?_append_left (by rw [List.length_take]; omega), List.getElem?_take, if_pos (by omega)] at g1 g2
        exact hno k (by omega) ⟨c, d, g1, g2, g3⟩
    · have ey : b ≠ ctr a := fun g => y (decide_eq_true (by rw [g]))
      refine ⟨_, rfl, _, _, rfl, rfl, _, ?_, u, p + 1, ps, by rw [<- ep]; rfl, rfl, by omega, fun k hk sp => ?_, ho, ht2, hps, s2⟩
      · omega
      · rcases Nat.lt_or_ge k p with g | g
        · exact hno k g sp
        · have : k = p := by omega
          subst this
          obtain ⟨c, d, g1, g2, g3⟩ := sp
          rw [e0] at g1; rw [e1] at g2
          cases g1; cases g2
          exact ey (by rw [g3, ctr_ctr hb])
  · have z1 : ¬ (p : Int) < (u.length : Int) - 1 := fun g => z (decide_eq_true g)
    have hu : red u = u := no_spot fun k sp => by
      rcases Nat.lt_or_ge k p with g | g
      · exact hno k g sp
      · obtain ⟨c, d, g1, g2, g3⟩ := sp
        have := (List.getElem?_eq_some_iff.mp g2).1
        omega
    refine ⟨_, rfl, q t ps H2 nt ht2 hps ?_ s2⟩
    rw [<- ho.red hw, hu]
    exact ho
theorem ok_way_down : FnOk P w K mg base CX0 4 f14 d14 ["cord", "word"] (sp_way_down K) := by
  have G_pairs_out := ok_pairs_out (P := P) (w := w) (base := base) T
  have G_shortened := ok_shortened (P := P) (w := w) (base := base) T
  have G_shortest := ok_shortest (P := P) (w := w) (base := base) T
  refine T.F14.fn.ok sc_way_down (fun vs H Q E h => len_way_down h) (fun cdv A outer s H vs Q E hr h => ?_)
  refine ⟨_, (pss_cons (ps_setCB (i := 2) ["pair", "cord"] [none, some 0] sc_way_down.nd rfl (Or.inl rfl) (pi_listK K rfl (pe_call G_pairs_out (hr.mono (by decide)) rfl T.F13.mg T.F13.fn.kp T.F13.bd .nil pass0 (pa_cons (pv 1) pa_nil))) ⟨⟨rfl, rfl, by first | exact .inl rfl | exact .inr rfl⟩, trivial⟩ (fun _ _ _ _ => (pg_name (i := 0) (by decide +kernel : List.Nodup (["pair", "cord"] : List Str)) rfl (Or.inl rfl))) (fun _ _ _ _ => pf_nil) (fun _ _ _ _ => (pe_tup (pa_cons (pe_S [111, 117, 116] (by decide +kernel)) (pa_cons (pv 1) (pa_cons (pe_ix (ix_tupK K rfl) (pv 0) pe_int (fun _ _ => rfl)) pa_nil))))))
      (pss_cons (ps_set (i := 3) sc_way_down.nd rfl (Or.inl rfl) (pe_callB call_lenS rfl T.z_len PySem.boot_len (pa_cons (pe_call G_shortened (hr.mono (by decide)) rfl T.F9.mg T.F9.fn.kp T.F9.bd .nil pass0 (pa_cons (pv 1) pa_nil)) pa_nil)))
      (pss_cons (ps_whileN PassesOwn.never (pt_cmpR op_gt (pv 3) (pe_callB call_lenS rfl T.z_len PySem.boot_len (pa_cons (pe_call G_shortest (hr.mono (by decide)) rfl T.F10.mg T.F10.fn.kp T.F10.bd .nil pass0 (pa_cons (pv 1) pa_nil)) pa_nil)) (nomark _)) (pss_cons (ps_expr (pe_bmK K rfl PySem.F.plainAttrs_list PySem.F.slot_list_append PySem.F.type_list_append mt_append (pv 2) (pa_cons (pe_tup (pa_cons (pe_S [116, 117, 114, 110] (by decide +kernel)) (pa_cons (pv 0) pa_nil))) pa_nil)))
      (pss_cons (ps_expr (pe_bmK K rfl PySem.F.plainAttrs_list PySem.F.slot_list_append PySem.F.type_list_append mt_append (pv 2) (pa_cons (pe_tup (pa_cons (pe_S [111, 117, 116] (by decide +kernel)) (pa_cons (pv 0) (pa_cons (pe_op op_sub (pv 3) pe_int) pa_nil)))) pa_nil)))
      (pss_one (ps_aug (i := 3) sc_way_down.nd rfl (Or.inl rfl) pe_int ip_sub)))))
      (pss_one (ps_ret (pv 2)))))), ?_⟩
  obtain ⟨y, c, w, rfl, hw, hz, q⟩ := h
  have hs : (100000 : Nat) < sizeLine := by decide
  refine ⟨_, rfl, w, rfl, hw, hz, fun t ps H1 nt ht hps ho s1 => ?_⟩
  have hpl : ps.length <= 6 := by have := ho.len; rw [List.length_map] at this; omega
  refine ⟨t, rfl, ⟨_, SqL.of ht⟩, ?_⟩
  refine comp_list (K := K) (a := t) (xs := pqv ps) (fun i acc H' => Same H1 H' /\ ∃ ds : List Dd, acc = ddv ds /\ (∀ x ∈ ds, DeedAt H' x.a x.e) /\ ds.map Dd.e = (ps.take i).map fun p => .out c p.k) (by rw [pqv_len]; omega) (fun i acc H' h => SqL.of (h.1 _ _ ht)) ⟨Same.refl _, [], rfl, fun _ h => absurd h List.not_mem_nil, rfl⟩ ?_ ?_
  · rintro i x acc H2 Nx hi hx hal ⟨s2, ds, rfl, hds, hde⟩ nx
    obtain ⟨p, hp, rfl⟩ := pqv_at hx
    have hpk : H2 p.t = _ := s2 _ _ (hps p (List.mem_of_getElem? hp))
    refine ⟨⟨rfl, trivial⟩, yes_ite ?_⟩
    refine ⟨_, rfl, _, rfl, p.t, _, 0, _, rfl, rfl, SqT.of hpk, rfl, by show 3 <= sizeLine; decide, fun d nd => ?_⟩
    have s3 := Same.upd (o := HO.tup [V.str (S [111, 117, 116]), V.int c, V.int p.k]) nd
    refine nx _ _ (by simpa using hal) ⟨s2.trans s3, ds ++ [⟨d, .out c p.k⟩], ddv_app2 ds ⟨d, .out c p.k⟩, fun x hx => ?_, ?_⟩
    · rcases List.mem_append.mp hx with g | g
      · exact (hds x g).ts (TSame.of s3)
      · rw [List.mem_singleton.mp g]; exact upd_same
    · rw [List.map_append, hde, List.take_succ, hp]
      show _ = ((ps.take i) ++ [p]).map _
      rw [List.map_append]; rfl
  · rintro acc H2 D hal ⟨s2, ds, rfl, hds, hde⟩ hD
    rw [pqv_len, List.take_length] at hde
    have s3 := Same.upd (o := HO.lst (ddv ds)) hD
    have nD : H D = none := Same.free (s1.trans s2) hD
    have hD3 : DsAt H (upd H2 D (HO.lst (ddv ds))) D ds := ⟨upd_same, fun x hx => (hds x hx).ts (TSame.of s3), (s1.trans s2).trans s3⟩
    have hwp : WP y c w (ds.map Dd.e) (red w) := by
      rw [hde]
      have := ho.down (y := y) (c := c)
      rwa [List.map_map] at this
    have hdl : ds.length <= 6 := by
      have := congrArg List.length hde
      rw [List.length_map, List.length_map] at this
      omega
    generalize upd H2 D (HO.lst (ddv ds)) = H3 at hD3 ⊢
    clear s2 hds hD hal s3
    have hrl := red_len w
    refine ⟨_, rfl, w, rfl, hw, by omega, fun H4 s4 => ⟨red w, rfl, by omega, ?_⟩⟩
    refine ⟨fun m σ H' => ∃ (u : List Nat) (es : List Dd), σ = [some (.int c), some (.str (S w)), some (.ref D), some (.int (u.length : Nat))] /\ m = u.length /\ core u = core (red w) /\ u.length <= 12 /\ DsAt H H' D es /\ WP y c w (es.map Dd.e) u /\ es.length + u.length <= 20,
      ⟨_, red w, ds, rfl, rfl, rfl, by omega, hD3.same s4, hwp, by omega⟩, ?_⟩
    rintro m σ H5 ⟨u, es, rfl, rfl, hc, hu, hd5, hw5, hl5⟩
    have hcl := core_len (red w)
    refine ⟨_, rfl, _, rfl, w, rfl, hw, by omega, fun H6 s6 => ⟨core (red w), rfl, by omega, _, _, rfl, rfl, _, rfl, ite2 (fun z => ?_) (fun z => ?_)⟩⟩
    · have z1 : (core u).length < u.length := by rw [hc]; have : (u.length : Int) > ((core (red w)).length : Int) := of_decide_eq_true z; omega
      obtain ⟨a, mm, zz, rfl, ez, hcm⟩ := core_more z1
      have hll : (a :: (mm ++ [zz])).length = mm.length + 2 := by simp
      have hd6 := hd5.same s6
      refine ⟨_, rfl, .inl ⟨rfl, _, SqL.of hd6.ls⟩, _, rfl, by show 2 <= sizeLine; decide, fun d1 n1 => ?_⟩
      have e1 := Same.upd (o := HO.tup [V.str (S [116, 117, 114, 110]), V.int c]) n1
      refine ⟨D, _, _, rfl, rfl, e1 _ _ hd6.ls, by rw [ddv_len]; omega, ?_⟩
      rw [show ddv es ++ [V.ref d1] = ddv (es ++ [⟨d1, .turn c⟩]) from ddv_app2 es ⟨d1, .turn c⟩]
      have hd7 := hd6.push (e := .turn c) nD e1 upd_same
      generalize upd (upd H6 d1 (HO.tup [V.str (S [116, 117, 114, 110]), V.int c])) D (HO.lst (ddv (es ++ [⟨d1, .turn c⟩]))) = H7 at hd7 ⊢
      have em : (((a :: (mm ++ [zz])).length : Nat) : Int) - 2 = ((mm.length : Nat) : Int) := by rw [hll]; omega
      refine ⟨_, rfl, .inl ⟨rfl, _, SqL.of hd7.ls⟩, _, rfl, _, rfl, _, _, rfl, rfl, by show 3 <= sizeLine; decide, fun d2 n2 => ?_⟩
      have e2 := Same.upd (o := HO.tup [V.str (S [111, 117, 116]), V.int c, V.int ((((a :: (mm ++ [zz])).length : Nat) : Int) - 2)]) n2
      refine ⟨D, _, _, rfl, rfl, e2 _ _ hd7.ls, by rw [ddv_len, List.length_append]; show es.length + 1 < _; omega, ?_⟩
      rw [show ddv (es ++ [⟨d1, .turn c⟩]) ++ [V.ref d2] = ddv ((es ++ [⟨d1, .turn c⟩]) ++ [⟨d2, .out c mm.length⟩]) from ddv_app2 _ ⟨d2, .out c mm.length⟩]
      have hd8 := hd7.push (e := .out c mm.length) nD e2 (by show upd H7 d2 _ d2 = _; rw [upd_same, em]; rfl)
      refine ⟨_, rfl, _, _, rfl, rfl, mm.length, by rw [hll]; omega, mm, _, by rw [<- em]; rfl, rfl, hcm.trans hc, by rw [hll] at hu; omega, hd8, ?_, by rw [hll] at hl5; rw [List.length_append, List.length_append]; show es.length + 1 + 1 + _ <= 20; omega⟩
      rw [List.map_append, List.map_append, List.append_assoc]
      exact hw5.app (WP.ends ez)
    · have z1 : ¬ (core u).length < u.length := fun g => z (decide_eq_true (by rw [hc] at g; show (u.length : Int) > _; omega))
      have hcu : core u = u := by
        by_cases h2 : 2 <= u.length
        · obtain ⟨a, mm, zz, rfl⟩ := ends2 h2
          by_cases ez : a = ctr zz
          · have := core_len mm
            rw [core_go ez] at z1
            simp at z1
            omega
          · exact core_stop ez
        · exact core_short (by omega)
      refine ⟨_, rfl, q D es H6 nD (hd5.same s6).ls (hd5.same s6).de ?_ (by omega) (hd5.same s6).sm⟩
      show WP y c w (es.map Dd.e) (core (red w))
      rw [<- hc, hcu]
      exact hw5
theorem ok_are_one : FnOk P w K mg base CX0 5 f12 d12 ["one", "other"] (sp_are_one K) := by
  have G_ring := ok_ring (P := P) (w := w) (base := base) T
  refine T.F12.fn.ok sc_are_one (fun vs H Q E h => len_are_one h) (fun cdv A outer s H vs Q E hr h => ?_)
  refine ⟨_, (pss_one (ps_ret (pe_cmpR op_eqS (pe_call G_ring (hr.mono (by decide)) rfl T.F11.mg T.F11.fn.kp T.F11.bd .nil pass0 (pa_cons (pv 0) pa_nil)) (pe_call G_ring (hr.mono (by decide)) rfl T.F11.mg T.F11.fn.kp T.F11.bd .nil pass0 (pa_cons (pv 1) pa_nil)) (nomark _)))), ?_⟩
  obtain ⟨a, b, rfl, ha, za, hb, zb, q⟩ := h
  refine ⟨_, rfl, a, rfl, ha, za, fun H1 s1 => ?_⟩
  refine ⟨_, rfl, b, rfl, hb, zb, fun H2 s2 => ?_⟩
  exact ⟨_, _, rfl, rfl, q _ (s1.trans s2)⟩
theorem ok_same_cords : FnOk P w K mg base CX0 6 f19 d19 ["one", "other"] (sp_same_cords K) := by
  have G_are_one := ok_are_one (P := P) (w := w) (base := base) T
  refine T.F19.fn.ok sc_same_cords (fun vs H Q E h => len_same_cords h) (fun cdv A outer s H vs Q E hr h => ?_)
  refine ⟨_, (pss_one (ps_ret (pe_and (pe_cmpR op_eqI (pe_callB (call_len_seqK K rfl) rfl T.z_len PySem.boot_len (pa_cons (pv 0) pa_nil)) (pe_callB (call_len_seqK K rfl) rfl T.z_len PySem.boot_len (pa_cons (pv 1) pa_nil)) (nomark _)) (pe_one (pe_callB (call_allK K rfl rfl) rfl T.z_all boot_all (pa_cons (pe_compB ["pair"] [none] (pi_zipNTT K rfl rfl T.z_zip (pa_cons (pv 0) (pa_cons (pv 1) pa_nil))) trivial (fun _ _ _ _ => (pg_name (i := 0) (by decide +kernel : List.Nodup (["pair"] : List Str)) rfl (Or.inl rfl))) (fun _ _ _ _ => pf_nil) (fun _ _ _ _ => (pe_call G_are_one (hr.mono (by decide)) rfl T.F12.mg T.F12.fn.kp T.F12.bd .nil pass0 (pa_cons (pe_ix (ix_tupK K rfl) (pv 0) pe_int (fun _ _ => rfl)) (pa_cons (pe_ix (ix_tupK K rfl) (pv 0) pe_int (fun _ _ => rfl)) pa_nil))))) pa_nil)))))), ?_⟩
  obtain ⟨t, u, ws, vs', rfl, ht, hu, hwf, hvf, hw, hv, q⟩ := h
  have hs : (100000 : Nat) < sizeLine := by decide
  refine ⟨_, rfl, t, _, rfl, .inr (SqT.of ht), _, rfl, u, _, rfl, .inr (SqT.of hu), _, _, rfl, rfl, ?_⟩
  refine ⟨_, rfl, ite2 (fun z => ?_) (fun z => ?_)⟩
  rotate_left
  · have hne : ws.map ringM ≠ vs'.map ringM := fun g => by
      have hl := congrArg List.length g
      rw [List.length_map, List.length_map] at hl
      rw [txs_len, txs_len, hl] at z
      exact z (decide_eq_true rfl)
    have := q H (Same.refl H)
    rw [decide_eq_false hne] at this
    exact this
  have hl : ws.length = vs'.length := by
    have := of_decide_eq_true z
    rw [txs_len, txs_len] at this
    omega
  refine ⟨_, rfl, _, rfl, t, u, rfl, ⟨_, SqT.of ht⟩, ⟨_, SqT.of hu⟩, ?_⟩
  refine comp_zip (Sq1 := SqTa K t) (Sq2 := SqTa K u) (xs := txs ws) (ys := txs vs') (fun i acc H' => acc = ((ws.zip vs').take i).map (fun p => V.bl (decide (ringM p.1 = ringM p.2))) /\ Same H H') (by rw [txs_len, txs_len]; exact hl) (by rw [txs_len]; omega) (fun i acc H' ⟨_, s⟩ => ⟨SqT.of (s _ _ ht), SqT.of (s _ _ hu)⟩) ⟨rfl, Same.refl H⟩ ?_ ?_
  · rintro i x y acc H' T Nx hx hy hac ⟨rfl, s1⟩ nT hN
    have hi : i < ws.length := by
      have := (List.getElem?_eq_some_iff.mp hx).1
      rwa [txs_len] at this
    have hi2 : i < vs'.length := by omega
    rw [txs_at hi] at hx
    rw [txs_at hi2] at hy
    cases hx
    cases hy
    have sT := Same.upd (o := HO.tup [.str (S ws[i]), .str (S vs'[i])]) nT
    refine ⟨trivial, ?_⟩
    simp only [tYes, if_true]
    obtain ⟨w1, w2⟩ := hw _ (List.getElem_mem hi)
    obtain ⟨v1, v2⟩ := hv _ (List.getElem_mem hi2)
    refine ⟨_, rfl, _, _, 0, _, rfl, rfl, SqT.of upd_same, rfl, _, rfl, _, _, 1, _, rfl, rfl, SqT.of upd_same, rfl, ?_⟩
    refine ⟨ws[i], vs'[i], rfl, w1, by omega, v1, by omega, fun H2 s2 => ?_⟩
    refine hN _ _ (by rw [List.length_append, List.length_map, List.length_take]; simp only [List.length_cons, List.length_nil]; omega) ⟨?_, s1.trans (sT.trans s2)⟩
    have hz : (ws.zip vs')[i]? = some (ws[i], vs'[i]) := by rw [List.getElem?_zip_eq_some]; exact ⟨List.getElem?_eq_getElem hi, List.getElem?_eq_getElem hi2⟩
    rw [List.take_add_one, hz, List.map_append]
    rfl
  · rintro acc H' D hal ⟨rfl, s1⟩ nD
    have e1 : (ws.zip vs').take (txs ws).length = ws.zip vs' := List.take_of_length_le (by rw [txs_len, List.length_zip]; omega)
    rw [e1]
    refine ⟨D, (ws.zip vs').map (fun p => decide (ringM p.1 = ringM p.2)), rfl, ?_, ?_⟩
    · rw [List.map_map]
      exact SqL.of upd_same
    · have e2 : ((ws.zip vs').map (fun p => decide (ringM p.1 = ringM p.2))).all id = decide (ws.map ringM = vs'.map ringM) := zip_ring hl
      rw [e2]
      exact q _ (s1.trans (Same.upd nD))
theorem ok_turns_between : FnOk P w K mg base CX0 1 f16 d16 ["one", "other"] (sp_turns_between K) := by
  refine T.F16.fn.ok sc_turns_between (fun vs H Q E h => len_turns_between h) (fun cdv A outer s H vs Q E hr h => ?_)
  refine ⟨_, (pss_cons (ps_set (i := 2) sc_turns_between.nd rfl (Or.inl rfl) pe_int)
      (pss_cons (ps_whileN PassesOwn.never (pt_cmpR op_neS (pe_op op_addS (pe_slice sl_S (pv 0) (po_some (pv 2)) po_none) (pe_slice sl_S (pv 0) po_none (po_some (pv 2)))) (pv 1) (nomark _)) (pss_one (ps_aug (i := 2) sc_turns_between.nd rfl (Or.inl rfl) pe_int ip_add)))
      (pss_one (ps_ret (pv 2))))), ?_⟩
  obtain ⟨a, b, rfl, hz, ⟨t0, h0, e0⟩, q⟩ := h
  have hs : (100000 : Nat) < sizeLine := by decide
  (repeat (first | refine ⟨_, rfl, ?_⟩ | refine ⟨_, _, rfl, rfl, ?_⟩ | refine ⟨_, _, _, rfl, rfl, by first | assumption | omega, by assumption, ?_⟩ | refine ⟨rfl, ?_⟩ | refine And.intro (by first | decide | omega | assumption | exact Nat.le_of_ble_eq_true rfl | exact .inl ⟨by decide, by decide⟩ | exact .inr ⟨by decide, by decide⟩ | exact ⟨by decide, by decide⟩ | exact ⟨by omega, by omega⟩) ?_))
  refine ⟨fun m σ H' => ∃ t : Nat, σ = [some (.str (S a)), some (.str (S b)), some (.int t)] /\ m = t0 - t /\ t <= t0 /\ H' = H, ⟨_, 0, rfl, rfl, Nat.zero_le _, rfl⟩, ?_⟩
  rintro m σ H2 ⟨t, rfl, rfl, ht, rfl⟩
  have hl : (rot a t).length = a.length := rot_len a t
  have haz : a.length <= sizeLine := by omega
  refine ⟨_, rfl, _, rfl, _, rfl, a, rfl, haz, _, rfl, _, rfl, _, rfl, a, rfl, haz, _, _, rfl, rfl, by rw [cut_from, cut_to]; unfold rot at hl; rw [<- List.length_append, hl]; omega, ?_⟩
  rw [cut_from, cut_to]
  refine ⟨_, rfl, rot a t, b, rfl, rfl, _, rfl, ite2 (fun z => ?_) (fun z => ?_)⟩
  · have z1 : rot a t ≠ b := by simpa using z
    have ht1 : t ≠ t0 := fun g => z1 (by rw [g]; exact e0)
    refine ⟨_, rfl, _, _, rfl, rfl, _, ?_, t + 1, by rw [show ((t + 1 : Nat) : Int) = (t : Int) + 1 by omega]; rfl, rfl, by omega, rfl⟩
    omega
  · have z1 : rot a t = b := by
      by_cases g : rot a t = b
      · exact g
      · exact absurd (by simpa using g) z
    exact ⟨_, rfl, q t (by omega) z1⟩
theorem ok_Ltake : FnOk P w K mg base CX0 1 f22 d22 ["_law_box_here", "_law_many"] (sp_Ltake K) := by
  refine T.F22.fn.ok sc_Ltake (fun vs H Q E h => len_Ltake h) (fun cdv A outer s H vs Q E hr h => ?_)
  refine ⟨_, (pss_cons (ps_if (pt_cmpR op_gt (pe_ix (ix_listK K rfl) (pv 0) pe_int (fun _ _ => rfl)) pe_int (nomark _)) (pss_cons (ps_set (i := 2) sc_Ltake.nd rfl (Or.inl rfl) (pe_op op_mod (pe_ix (ix_listK K rfl) (pv 0) pe_int (fun _ _ => rfl)) (pv 1)))
      (pss_cons (ps_asg (pe_op op_fdiv (pe_ix (ix_listK K rfl) (pv 0) pe_int (fun _ _ => rfl)) (pv 1)) (pg_sub (pv 0) pe_int set_list))
      (pss_one (ps_ret (pv 2))))) pss_nil)
      (pss_cons (ps_set (i := 3) sc_Ltake.nd rfl (Or.inl rfl) (pe_op op_mod (pe_op op_mul (pe_ix (ix_listK K rfl) (pv 0) pe_int (fun _ _ => rfl)) pe_int) pe_int))
      (pss_cons (ps_asg (pe_op op_add (pe_op op_mod (pe_op op_add (pe_op op_mul (pv 3) pe_int) pe_int) pe_int) pe_int) (pg_sub (pv 0) pe_int set_list))
      (pss_one (ps_ret (pe_op op_mod (pe_op op_fdiv (pe_op op_add (pe_op op_mul (pv 3) pe_int) (pe_ix (ix_listK K rfl) (pv 0) pe_int (fun _ _ => rfl))) pe_int) (pv 1))))))), ?_⟩
  obtain ⟨b, m, rfl, ⟨x, y, hb⟩, h1, h2, q⟩ := h
  have fin : ∀ (r x' y' : Int), 0 <= r -> r < m -> Q (.int r) (upd H b (.lst [.int x', .int y'])) := fun r x' y' h3 h4 => by
    have e : r = ((r.toNat : Nat) : Int) := by omega
    rw [e]
    exact q r.toNat _ (by omega) ⟨x', y', upd_same⟩ (SameB.upd b H _)
  refine ⟨_, rfl, b, _, 0, _, rfl, rfl, SqL.of hb, rfl, _, _, rfl, rfl, _, rfl, ite2 (fun e => ?_) (fun e => ?_)⟩
  · refine ⟨_, rfl, b, _, 0, _, rfl, rfl, SqL.of hb, rfl, _, rfl, _, _, rfl, rfl, (by omega : 0 < m), ?_⟩
    refine ⟨_, rfl, b, _, 0, _, rfl, rfl, SqL.of hb, rfl, _, rfl, _, _, rfl, rfl, ⟨by omega, by omega⟩, _, rfl, b, _, 0, 0, rfl, rfl, hb, rfl, _, rfl, ?_⟩
    exact fin (x % m) (x / m) y (Int.emod_nonneg _ (by omega)) (Int.emod_lt_of_pos _ (by omega))
  · refine ⟨_, rfl, b, _, 1, _, rfl, rfl, SqL.of hb, rfl, _, _, rfl, rfl, .inr ⟨by decide, by decide⟩, _, _, rfl, rfl, (by decide : (0 : Int) < 2147483647), ?_⟩
    refine ⟨_, rfl, _, _, rfl, rfl, .inr ⟨by decide, by decide⟩, _, _, rfl, rfl, _, _, rfl, rfl, (by decide : (0 : Int) < 2147483629), _, _, rfl, rfl, _, rfl, b, _, 1, 1, rfl, rfl, hb, rfl, ?_⟩
    refine ⟨_, rfl, _, _, rfl, rfl, .inr ⟨by decide, by decide⟩, _, rfl, b, _, 1, _, rfl, rfl, SqL.of upd_same, rfl, _, _, rfl, rfl, _, _, rfl, rfl, ⟨by decide, by decide⟩, _, rfl, _, _, rfl, rfl, (by omega : 0 < m), ?_⟩
    exact fin _ _ _ (Int.emod_nonneg _ (by omega)) (Int.emod_lt_of_pos _ (by omega))
theorem ok_Lotherwise : FnOk P w K mg base CX0 2 f31 d31 ["_law_box_here", "_law_yard_here", "_law_words_here"] (sp_Lotherwise K) := by
  have G_Ltake := ok_Ltake (P := P) (w := w) (base := base) T
  have G_Lother := ok_Lother (P := P) (w := w) (base := base) T
  refine T.F31.fn.ok sc_Lotherwise (fun vs H Q E h => len_Lotherwise h) (fun cdv A outer s H vs Q E hr h => ?_)
  refine ⟨_, (pss_cons (ps_set (i := 3) sc_Lotherwise.nd rfl (Or.inl rfl) (pe_call G_Ltake (hr.mono (by decide)) rfl T.F22.mg T.F22.fn.kp T.F22.bd .nil pass0 (pa_cons (pv 0) (pa_cons pe_int pa_nil))))
      (pss_cons (ps_if (pt_cmpR op_eqI (pe_callB (call_len_seqK K rfl) rfl T.z_len PySem.boot_len (pa_cons (pv 2) pa_nil)) pe_int (nomark _)) (pss_one (ps_ret (pe_tup (pa_cons (pe_ix ix_S (pv 1) pe_int (fun _ _ => rfl)) pa_nil)))) pss_nil)
      (pss_cons (ps_set (i := 4) sc_Lotherwise.nd rfl (Or.inl rfl) (pe_call G_Ltake (hr.mono (by decide)) rfl T.F22.mg T.F22.fn.kp T.F22.bd .nil pass0 (pa_cons (pv 0) (pa_cons (pe_callB (call_len_seqK K rfl) rfl T.z_len PySem.boot_len (pa_cons (pv 2) pa_nil)) pa_nil))))
      (pss_cons (ps_set (i := 5) sc_Lotherwise.nd rfl (Or.inl rfl) (pe_ix (ix_tupK K rfl) (pv 2) (pv 4) (fun _ _ => rfl)))
      (pss_cons (ps_set (i := 6) sc_Lotherwise.nd rfl (Or.inl rfl) (pe_call G_Ltake (hr.mono (by decide)) rfl T.F22.mg T.F22.fn.kp T.F22.bd .nil pass0 (pa_cons (pv 0) (pa_cons (pe_op op_add (pe_callB call_lenS rfl T.z_len PySem.boot_len (pa_cons (pv 5) pa_nil)) pe_int) pa_nil))))
      (pss_cons (ps_set (i := 7) sc_Lotherwise.nd rfl (Or.inl rfl) (pe_ix ix_S (pv 1) (pe_call G_Ltake (hr.mono (by decide)) rfl T.F22.mg T.F22.fn.kp T.F22.bd .nil pass0 (pa_cons (pv 0) (pa_cons (pe_callB call_lenS rfl T.z_len PySem.boot_len (pa_cons (pv 1) pa_nil)) pa_nil))) (fun _ _ => rfl)))
      (pss_cons (ps_set (i := 8) sc_Lotherwise.nd rfl (Or.inl rfl) (pe_call G_Ltake (hr.mono (by decide)) rfl T.F22.mg T.F22.fn.kp T.F22.bd .nil pass0 (pa_cons (pv 0) (pa_cons (pe_callB (call_len_seqK K rfl) rfl T.z_len PySem.boot_len (pa_cons (pv 2) pa_nil)) pa_nil))))
      (pss_via (ps_if (pt_cmpR op_eqI (pv 3) pe_int (nomark _)) (pss_one (ps_set (i := 5) sc_Lotherwise.nd rfl (Or.inl rfl) (pe_slice sl_S (pe_op op_addS (pe_op op_addS (pe_slice sl_S (pv 5) po_none (po_some (pv 6))) (pv 7)) (pe_slice sl_S (pv 5) (po_some (pe_op op_add (pv 6) pe_int)) po_none)) po_none (po_some (pe_callB call_lenS rfl T.z_len PySem.boot_len (pa_cons (pv 5) pa_nil)))))) (pss_one (ps_if (PW.pt (pw_and (pt_cmpR op_eqI (pv 3) pe_int (nomark _)) (pw_and (pt_cmpR op_lt (pe_callB call_lenS rfl T.z_len PySem.boot_len (pa_cons (pv 5) pa_nil)) pe_int (nomark _)) (pw_and1 (pt_cmpR op_lt (pe_callB call_lenS rfl T.z_len PySem.boot_len (pa_cons (pe_bmK K rfl PySem.F.plainAttrs_str PySem.F.slot_str_join PySem.F.type_str_join (mt_joinT K rfl) (pe_S [] (by decide +kernel)) (pa_cons (pv 2) pa_nil)) pa_nil)) pe_int (nomark _)))))) (pss_one (ps_set (i := 5) sc_Lotherwise.nd rfl (Or.inl rfl) (pe_op op_addS (pe_op op_addS (pe_slice sl_S (pv 5) po_none (po_some (pv 6))) (pv 7)) (pe_slice sl_S (pv 5) (po_some (pv 6)) po_none)))) (pss_one (ps_if (pt_cmpR op_eqI (pv 3) pe_int (nomark _)) (pss_one (ps_set (i := 5) sc_Lotherwise.nd rfl (Or.inl rfl) (pe_op op_addS (pe_slice sl_S (pv 5) po_none (po_some (pv 6))) (pe_slice sl_S (pv 5) (po_some (pe_op op_add (pv 6) pe_int)) po_none)))) (pss_one (ps_if (pt_cmpR op_eqI (pv 3) pe_int (nomark _)) (pss_one (ps_set (i := 5) sc_Lotherwise.nd rfl (Or.inl rfl) (pe_bmK K rfl PySem.F.plainAttrs_str PySem.F.slot_str_join PySem.F.type_str_join (mt_joinK K rfl) (pe_S [] (by decide +kernel)) (pa_cons (pe_compB ["_law_one"] [none] (pi_rev rfl T.z_reversed (pa_cons (pv 5) pa_nil)) trivial (fun _ _ _ _ => (pg_name (i := 0) (by decide +kernel : List.Nodup (["_law_one"] : List Str)) rfl (Or.inl rfl))) (fun _ _ _ _ => pf_nil) (fun _ _ _ _ => (pe_call G_Lother (hr.mono (by decide)) rfl T.F23.mg T.F23.fn.kp T.F23.bd .nil pass0 (pa_cons (pv 0) pa_nil)))) pa_nil)))) (pss_one (ps_if (pt_cmpR op_eqI (pv 3) pe_int (nomark _)) (pss_cons (ps_set (i := 9) sc_Lotherwise.nd rfl (Or.inl rfl) (pe_ix (ix_tupK K rfl) (pv 2) (pv 8) (fun _ _ => rfl)))
      (pss_cons (ps_set (i := 2) sc_Lotherwise.nd rfl (Or.inl rfl) (pe_op op_catA (pe_op op_catA (pe_slice sl_tupA (pv 2) po_none (po_some (pv 8))) (pe_tup (pa_cons (pv 5) pa_nil))) (pe_slice sl_tupA (pv 2) (po_some (pe_op op_add (pv 8) pe_int)) po_none)))
      (pss_one (ps_set (i := 5) sc_Lotherwise.nd rfl (Or.inl rfl) (pv 9))))) (pss_one (ps_if (pt_cmpR op_eqI (pv 3) pe_int (nomark _)) (pss_one (ps_ret (pe_op op_catA (pe_slice sl_tupA (pv 2) po_none (po_some (pv 4))) (pe_slice sl_tupA (pv 2) (po_some (pe_op op_add (pv 4) pe_int)) po_none)))) (pss_one (ps_if (PW.pt (pw_and (pt_cmpR op_lt (pe_callB (call_len_seqK K rfl) rfl T.z_len PySem.boot_len (pa_cons (pv 2) pa_nil)) pe_int (nomark _)) (pw_and1 (pt_cmpR op_lt (pe_op op_add (pe_callB call_lenS rfl T.z_len PySem.boot_len (pa_cons (pe_bmK K rfl PySem.F.plainAttrs_str PySem.F.slot_str_join PySem.F.type_str_join (mt_joinT K rfl) (pe_S [] (by decide +kernel)) (pa_cons (pv 2) pa_nil)) pa_nil)) (pe_callB call_lenS rfl T.z_len PySem.boot_len (pa_cons (pv 5) pa_nil))) pe_int (nomark _))))) (pss_one (ps_ret (pe_op op_catA (pv 2) (pe_tup (pa_cons (pv 5) pa_nil))))) pss_nil)))))))))))))
      (pss_one (ps_ret (pe_slice sl_tupA (pe_op op_catA (pe_op op_catA (pe_slice sl_tupA (pv 2) po_none (po_some (pv 4))) (pe_tup (pa_cons (pe_slice sl_S (pv 5) po_none (po_some pe_int)) pa_nil))) (pe_slice sl_tupA (pv 2) (po_some (pe_op op_add (pv 4) pe_int)) po_none)) po_none (po_some pe_int)))))))))))), ?_⟩
  obtain ⟨b, y, wt, ws, rfl, hb, hy, hyn, hy8, hw, ok, q⟩ := h
  have hs : (100000 : Nat) < sizeLine := by decide
  have hfew := ok.few
  have hyp : 0 < y.length := List.length_pos_iff.mpr hyn
  have hz0 : ∀ {l : List Nat}, l.length <= 1000 -> l.length <= sizeLine := fun h => by omega
  refine ⟨_, rfl, b, 7, rfl, hb, by decide, by decide, fun f H1 hf hb1 s1 => ?_⟩
  have hw1 := TSame.box hb s1 _ _ hw
  refine ⟨_, rfl, wt, _, rfl, .inr (SqT.of hw1), _, _, rfl, rfl, _, rfl, ite2 (fun z => ?_) (fun z => ?_)⟩
  · refine ⟨_, rfl, y, 0, y[0], rfl, rfl, hz0 (by omega), atI_nat (j := 0) (List.getElem?_eq_getElem hyp), ?_⟩
    refine ⟨by show 1 <= sizeLine; decide, fun t nt => ?_⟩
    have sU := Same.upd (o := HO.tup [V.str (S [y[0]])]) nt
    refine q t [[y[0]]] _ upd_same ⟨by show 1 <= 4; decide, fun w hw => ?_⟩ (hb1.same sU) (s1.after sU)
    rw [List.mem_singleton.mp hw]
    exact ⟨fun c hc => by rw [List.mem_singleton.mp hc]; exact List.getElem_mem hyp, by show 1 <= 12; decide⟩
  have hpos : 0 < ws.length := by
    rw [txs_len] at z
    by_cases g : ws.length = 0
    · exact absurd (by rw [g]; rfl) z
    · omega
  clear z
  refine ⟨_, rfl, _, rfl, wt, _, rfl, .inr (SqT.of hw1), b, _, rfl, hb1, by rw [txs_len]; omega, by rw [txs_len]; omega, fun c H2 hc hb2 s2 => ?_⟩
  rw [txs_len] at hc
  have hc' : c < ws.length := by omega
  have hw2 := TSame.box hb1 s2 _ _ hw1
  obtain ⟨hwy, hwz⟩ := ok.all _ (List.getElem_mem hc')
  have hcw := List.getElem?_eq_getElem hc'
  generalize ws[c] = w at hwy hwz hcw
  refine ⟨_, rfl, _, rfl, wt, _, _, _, rfl, rfl, SqT.of hw2, atI_nat (txs_get2 hcw), ?_⟩
  refine ⟨_, rfl, _, rfl, w, rfl, hz0 (by omega), _, _, rfl, rfl, b, _, rfl, hb2, by omega, by omega, fun at' H3 hat hb3 s3 => ?_⟩
  refine ⟨_, rfl, _, rfl, _, rfl, y, rfl, hz0 (by omega), b, _, rfl, hb3, by omega, by omega, fun lt H4 hlt hb4 s4 => ?_⟩
  have hlt' : lt < y.length := by omega
  have hly := List.getElem_mem hlt'
  have hle := List.getElem?_eq_getElem hlt'
  generalize y[lt] = x at hly hle
  refine ⟨y, _, x, rfl, rfl, hz0 (by omega), atI_nat hle, ?_⟩
  have hw4 := TSame.box hb3 s4 _ _ (TSame.box hb2 s3 _ _ hw2)
  refine ⟨_, rfl, _, rfl, wt, _, rfl, .inr (SqT.of hw4), b, _, rfl, hb4, by rw [txs_len]; omega, by rw [txs_len]; omega, fun d H5 hd hb5 s5 => ?_⟩
  rw [txs_len] at hd
  have hd' : d < ws.length := by omega
  have hw5 := TSame.box hb4 s5 _ _ hw4
  have s05 := (((s1.trans s2).trans s3).trans s4).trans s5
  clear s1 s2 s3 s4 s5 hb1 hb2 hb3 hb4 hw1 hw2 hw4
  have hfl : ws.flatten.length <= 1000 := by
    have := sum_le fun w hw => (ok.all w hw).2
    rw [List.length_flatten]; omega
  refine ⟨fun σ' H' => ∃ (wt2 : Addr) (ws2 : List (List Nat)) (w2 : List Nat) (ov : Option V), σ' = [some (.ref b), some (.str (S y)), some (.ref wt2), some (.int f), some (.int c), some (.str (S w2)), some (.int at'), some (.str (S [x])), some (.int d), ov] /\ H' wt2 = some (.tup (txs ws2)) /\ ws2.length <= 100 /\ (∀ v ∈ ws2, (∀ e ∈ v, e ∈ y) /\ v.length <= 12) /\ (∀ e ∈ w2, e ∈ y) /\ w2.length <= 100 /\ BoxAt H' b /\ SameB b H H', ?_, ?_⟩
  · have k1 := cut_len w none (some (at' : Int))
    have k2 := cut_len w (some ((at' : Int) + 1)) none
    have k3 := cut_len w (some (at' : Int)) none
    have m1 : ∀ {e : Nat} {lo hi : Option Int}, e ∈ cut w lo hi -> e ∈ y := fun h => hwy _ (cut_mem h)
    have mx : ∀ {e : Nat}, e ∈ [x] -> e ∈ y := fun h => by rw [List.mem_singleton.mp h]; exact hly
    show tIfS _ _ _ _ [some (.ref b), some (.str (S y)), some (.ref wt), some (.int f), some (.int c), some (.str (S w)), some (.int at'), some (.str (S [x])), some (.int d), none] H5
    refine ⟨_, rfl, _, _, rfl, rfl, _, rfl, ite2 (fun z0 => ?_) (fun z0 => ?_)⟩
    · refine ⟨_, rfl, _, rfl, _, rfl, w, rfl, hz0 (by omega), _, rfl, _, _, rfl, rfl, by simp only [List.length_cons, List.length_nil]; omega, ?_⟩
      refine ⟨_, rfl, _, rfl, _, _, rfl, rfl, _, rfl, w, rfl, hz0 (by omega), _, _, rfl, rfl, by simp only [List.length_append, List.length_cons, List.length_nil]; omega, ?_⟩
      refine ⟨_, rfl, w, rfl, hz0 (by omega), _, rfl, _, rfl, hz0 (by simp only [List.length_append, List.length_cons, List.length_nil]; omega), ?_⟩
      have k4 := cut_len (cut w none (some (at' : Int)) ++ [x] ++ cut w (some ((at' : Int) + 1)) none) none (some (w.length : Int))
      simp only [List.length_append, List.length_cons, List.length_nil] at k4
      refine ⟨wt, ws, _, none, rfl, hw5, by omega, ok.all, fun e he => ?_, by omega, hb5, s05⟩
      rcases List.mem_append.mp (cut_mem he) with g | g
      · rcases List.mem_append.mp g with g | g
        · exact m1 g
        · exact mx g
      · exact m1 g
    refine ⟨_, rfl, _, _, rfl, rfl, _, rfl, ite_dup ?_ (fun z1 hB => ?_)⟩
    rotate_left
    · refine ⟨_, rfl, w, rfl, hz0 (by omega), _, _, rfl, rfl, _, rfl, ite2 (fun z2 => ?_) (fun _ => hB)⟩
      refine ⟨rfl, _, rfl, wt, ws, rfl, rfl, SqT.of hw5, by rw [List.length_flatten] at hfl; omega, ?_⟩
      refine ⟨_, rfl, by omega, _, _, rfl, rfl, _, rfl, ite2 (fun z3 => ?_) (fun _ => hB)⟩
      refine ⟨_, rfl, _, rfl, _, rfl, w, rfl, hz0 (by omega), _, rfl, _, _, rfl, rfl, by simp only [List.length_cons, List.length_nil]; omega, ?_⟩
      refine ⟨_, rfl, _, rfl, _, rfl, w, rfl, hz0 (by omega), _, _, rfl, rfl, by simp only [List.length_append, List.length_cons, List.length_nil]; omega, ?_⟩
      refine ⟨wt, ws, _, none, rfl, hw5, by omega, ok.all, fun e he => ?_, by simp only [List.length_append, List.length_cons, List.length_nil]; omega, hb5, s05⟩
      rcases List.mem_append.mp he with g | g
      · rcases List.mem_append.mp g with g | g
        · exact m1 g
        · exact mx g
      · exact m1 g
    refine iteN rfl ?_
    refine ⟨_, rfl, _, _, rfl, rfl, _, rfl, ite2 (fun z2 => ?_) (fun z2 => ?_)⟩
    · refine ⟨_, rfl, _, rfl, _, rfl, w, rfl, hz0 (by omega), ?_⟩
      refine ⟨_, rfl, _, rfl, _, _, rfl, rfl, _, rfl, w, rfl, hz0 (by omega), _, _, rfl, rfl, by omega, ?_⟩
      refine ⟨wt, ws, _, none, rfl, hw5, by omega, ok.all, fun e he => ?_, by simp only [List.length_append]; omega, hb5, s05⟩
      rcases List.mem_append.mp he with g | g
      · exact m1 g
      · exact m1 g
    refine ⟨_, rfl, _, _, rfl, rfl, _, rfl, ite2 (fun z3 => ?_) (fun z3 => ?_)⟩
    · refine ⟨rfl, _, rfl, w, rfl, hz0 (by omega), ?_⟩
      rw [sgs_rev]
      refine comp_fix (xs := sgs w.reverse) (fun i acc H' => Same H5 H' /\ acc = sgs ((w.reverse.take i).map ctr)) (by rw [sgs_len, List.length_reverse]; omega) ⟨Same.refl H5, rfl⟩ ?_ ?_
      · rintro i x acc H6 Nx hi hx hl ⟨s6, rfl⟩ nx
        obtain ⟨e, he, rfl⟩ := sgs_get hx
        refine ⟨trivial, yes_ite ⟨_, rfl, e, rfl, hy.lt e (hwy e (List.mem_reverse.mp (List.mem_of_getElem? he))), nx _ _ (by simpa using hl) ⟨s6, ?_⟩⟩⟩
        rw [sgs_snoc, <- take_snoc he, List.map_append]
        rfl
      · rintro acc H6 D hl ⟨s6, rfl⟩ hD
        have lw : (tnd w).length = w.length := by unfold tnd; rw [List.length_reverse, List.length_map]
        refine ⟨D, (tnd w).map fun c => [c], rfl, rfl, SqL.of ?_, ?_, ?_⟩
        · rw [upd_same, <- sgs_lists, sgs_len, List.take_of_length_le (Nat.le_refl _), List.map_reverse]
          rfl
        · rw [sum1]; omega
        · rw [flat1]
          have sU := s6.trans (Same.upd (o := HO.lst (sgs (((w.reverse).take (sgs w.reverse).length).map ctr))) hD)
          refine ⟨wt, ws, _, none, rfl, sU _ _ hw5, by omega, ok.all, fun e he => ?_, by omega, hb5.same sU, s05.after sU⟩
          unfold tnd at he
          obtain ⟨e', he', rfl⟩ := List.mem_map.mp (List.mem_reverse.mp he)
          exact hy.cl _ (hwy _ he')
    refine ⟨_, rfl, _, _, rfl, rfl, _, rfl, ite2 (fun z4 => ?_) (fun z4 => ?_)⟩
    · have hdw := List.getElem?_eq_getElem hd'
      have hdm := ok.all _ (List.getElem_mem hd')
      generalize ws[d] = v at hdw hdm
      refine ⟨_, rfl, _, rfl, wt, _, _, _, rfl, rfl, SqT.of hw5, atI_nat (txs_get2 hdw), ?_⟩
      refine ⟨_, rfl, _, rfl, _, rfl, wt, _, rfl, hw5, fun p1 H7 s7 hp1 => ?_⟩
      rw [cut_txs2, cut_to] at hp1
      refine ⟨_, rfl, by show 1 <= sizeLine; decide, fun t2 nt2 => ?_⟩
      have e8 := Same.upd (o := HO.tup (txs [w])) nt2
      have l1 : (ws.take d).length <= d := List.length_take_le _ _
      have l2 : (ws.drop (d + 1)).length <= ws.length := by rw [List.length_drop]; omega
      refine ⟨p1, t2, txs (ws.take d), txs [w], rfl, rfl, e8 _ _ hp1, upd_same, by rw [txs_len, txs_len, List.length_cons, List.length_nil]; omega, fun p2 H8 s8 hp2 => ?_⟩
      have s58 : Same H5 H8 := (Same.trans (show Same H5 H7 from s7) e8).trans s8
      refine ⟨_, rfl, _, rfl, _, _, rfl, rfl, _, rfl, wt, _, rfl, s58 _ _ hw5, fun p3 H9 s9 hp3 => ?_⟩
      rw [cut_txs2, cut_next] at hp3
      refine ⟨p2, p3, _, _, rfl, rfl, s9 _ _ hp2, hp3, by rw [List.length_append, txs_len, txs_len, txs_len, List.length_cons, List.length_nil]; omega, fun p4 HA sA hp4 => ?_⟩
      rw [txs_cat, txs_cat] at hp4
      have s5A : Same H5 HA := (s58.trans s9).trans sA
      refine ⟨_, rfl, p4, _, v, _, rfl, hp4, by simp only [List.length_append, List.length_cons, List.length_nil]; omega, fun u hu => ?_, hdm.1, by omega, hb5.same s5A, s05.after s5A⟩
      rcases List.mem_append.mp hu with g | g
      · rcases List.mem_append.mp g with g | g
        · exact ok.all _ (List.mem_of_mem_take g)
        · rw [List.mem_singleton.mp g]; exact ⟨hwy, hwz⟩
      · exact ok.all _ (List.mem_of_mem_drop g)
    refine ⟨_, rfl, _, _, rfl, rfl, _, rfl, ite2 (fun z5 => ?_) (fun z5 => ?_)⟩
    · refine ⟨_, rfl, _, rfl, _, rfl, wt, _, rfl, hw5, fun p1 H7 s7 hp1 => ?_⟩
      rw [cut_txs2, cut_to] at hp1
      refine ⟨_, rfl, _, rfl, _, _, rfl, rfl, _, rfl, wt, _, rfl, s7 _ _ hw5, fun p3 H9 s9 hp3 => ?_⟩
      rw [cut_txs2, cut_next] at hp3
      have l1 : (ws.take c).length <= c := List.length_take_le _ _
      have l2 : (ws.drop (c + 1)).length = ws.length - (c + 1) := List.length_drop
      refine ⟨p1, p3, _, _, rfl, rfl, s9 _ _ hp1, hp3, by rw [txs_len, txs_len]; omega, fun p4 HA sA hp4 => ?_⟩
      rw [txs_cat] at hp4
      have s5A : Same H5 HA := (Same.trans (show Same H5 H7 from s7) s9).trans sA
      refine q p4 _ HA hp4 ⟨by rw [List.length_append]; omega, fun u hu => ?_⟩ (hb5.same s5A) (s05.after s5A)
      rcases List.mem_append.mp hu with g | g
      · exact ok.all _ (List.mem_of_mem_take g)
      · exact ok.all _ (List.mem_of_mem_drop g)
    have nxt : ∃ (wt2 : Addr) (ws2 : List (List Nat)) (w2 : List Nat) (ov : Option V), [some (V.ref b), some (.str (S y)), some (.ref wt), some (.int f), some (.int c), some (.str (S w)), some (.int at'), some (.str (S [x])), some (.int d), none] = [some (.ref b), some (.str (S y)), some (.ref wt2), some (.int f), some (.int c), some (.str (S w2)), some (.int at'), some (.str (S [x])), some (.int d), ov] /\ H5 wt2 = some (.tup (txs ws2)) /\ ws2.length <= 100 /\ (∀ v ∈ ws2, (∀ e ∈ v, e ∈ y) /\ v.length <= 12) /\ (∀ e ∈ w2, e ∈ y) /\ w2.length <= 100 /\ BoxAt H5 b /\ SameB b H H5 :=
      ⟨wt, ws, w, none, rfl, hw5, by omega, ok.all, hwy, by omega, hb5, s05⟩
    refine ⟨_, rfl, wt, _, rfl, .inr (SqT.of hw5), _, _, rfl, rfl, _, rfl, ite2 (fun z6 => ?_) (fun z6 => iteN rfl nxt)⟩
    refine ⟨rfl, _, rfl, wt, ws, rfl, rfl, SqT.of hw5, by rw [List.length_flatten] at hfl; omega, ?_⟩
    refine ⟨_, rfl, by omega, _, rfl, w, rfl, hz0 (by omega), _, _, rfl, rfl, _, _, rfl, rfl, _, rfl, ite2 (fun z7 => ?_) (fun z7 => nxt)⟩
    have g6 := of_decide_eq_true z6
    rw [txs_len] at g6
    refine ⟨_, rfl, _, rfl, by show 1 <= sizeLine; decide, fun t2 nt2 => ?_⟩
    have e8 := Same.upd (o := HO.tup (txs [w])) nt2
    refine ⟨wt, t2, txs ws, txs [w], rfl, rfl, e8 _ _ hw5, upd_same, by rw [txs_len, txs_len, List.length_cons, List.length_nil]; omega, fun p2 H8 s8 hp2 => ?_⟩
    rw [txs_cat] at hp2
    have s58 : Same H5 H8 := e8.trans s8
    refine q p2 _ H8 hp2 ⟨by rw [List.length_append, List.length_cons, List.length_nil]; omega, fun u hu => ?_⟩ (hb5.same s58) (s05.after s58)
    rcases List.mem_append.mp hu with g | g
    · exact ok.all _ g
    · rw [List.mem_singleton.mp g]; exact ⟨hwy, hwz⟩
  · rintro σ' H6 ⟨wt2, ws2, w2, ov, rfl, hw6, hl2, ha2, hy2, hz2, hb6, s06⟩
    refine ⟨_, rfl, _, rfl, _, rfl, wt2, _, rfl, hw6, fun p1 H7 s7 hp1 => ?_⟩
    rw [cut_txs2, cut_to] at hp1
    refine ⟨_, rfl, 12, rfl, w2, rfl, hz0 (by omega), by show 1 <= sizeLine; decide, fun t2 nt2 => ?_⟩
    have e8 := Same.upd (o := HO.tup (txs [cut w2 none (some 12)])) nt2
    have l1 : (ws2.take c).length <= ws2.length := by rw [List.length_take]; omega
    have l2 : (ws2.drop (c + 1)).length <= ws2.length := by rw [List.length_drop]; omega
    refine ⟨p1, t2, txs (ws2.take c), txs [cut w2 none (some 12)], rfl, rfl, e8 _ _ hp1, upd_same, by rw [txs_len, txs_len, List.length_cons, List.length_nil]; omega, fun p2 H8 s8 hp2 => ?_⟩
    have s68 : Same H6 H8 := (Same.trans (show Same H6 H7 from s7) e8).trans s8
    refine ⟨_, rfl, _, rfl, _, _, rfl, rfl, _, rfl, wt2, _, rfl, s68 _ _ hw6, fun p3 H9 s9 hp3 => ?_⟩
    rw [cut_txs2, cut_next] at hp3
    refine ⟨p2, p3, _, _, rfl, rfl, s9 _ _ hp2, hp3, by rw [List.length_append, txs_len, txs_len, txs_len, List.length_cons, List.length_nil]; omega, fun p4 HA sA hp4 => ?_⟩
    rw [txs_cat, txs_cat] at hp4
    have s6A : Same H6 HA := (s68.trans s9).trans sA
    refine ⟨4, rfl, p4, _, rfl, hp4, fun p5 HB sB hp5 => ?_⟩
    rw [cut_txs2] at hp5
    have s6B : Same H6 HB := s6A.trans sB
    have c12 : cut w2 none (some 12) = w2.take 12 := cut_to w2 12
    refine q p5 _ HB hp5 ⟨?_, fun u hu => ?_⟩ (hb6.same s6B) (s06.after s6B)
    · rw [show (some (4 : Int)) = some ((4 : Nat) : Int) from rfl, cut_to]
      exact List.length_take_le _ _
    · rcases List.mem_append.mp (cut_mem hu) with g | g
      · rcases List.mem_append.mp g with g | g
        · exact ha2 _ (List.mem_of_mem_take g)
        · rw [List.mem_singleton.mp g, c12]
          exact ⟨fun e he => hy2 e (List.mem_of_mem_take he), List.length_take_le _ _⟩
      · exact ha2 _ (List.mem_of_mem_drop g)
theorem ok_way_up : FnOk P w K mg base CX0 4 f15 d15 ["cord", "word"] (sp_way_up K) := by
  have G_shortened := ok_shortened (P := P) (w := w) (base := base) T
  have G_shortest := ok_shortest (P := P) (w := w) (base := base) T
  have G_contrary := ok_contrary (P := P) (w := w) (base := base) T
  have G_pairs_out := ok_pairs_out (P := P) (w := w) (base := base) T
  refine T.F15.fn.ok sc_way_up (fun vs H Q E h => len_way_up h) (fun cdv A outer s H vs Q E hr h => ?_)
  refine ⟨_, (pss_cons (ps_set (i := 2) sc_way_up.nd rfl (Or.inl rfl) (pe_lst pa_nil))
      (pss_cons (ps_set (i := 3) sc_way_up.nd rfl (Or.inl rfl) (pe_call G_shortened (hr.mono (by decide)) rfl T.F9.mg T.F9.fn.kp T.F9.bd .nil pass0 (pa_cons (pv 1) pa_nil)))
      (pss_cons (ps_for PassesOwn.never rfl (pi_rev rfl T.z_reversed (pa_cons (pe_slice sl_S (pv 3) po_none (po_some (pe_op op_fdiv (pe_op op_sub (pe_callB call_lenS rfl T.z_len PySem.boot_len (pa_cons (pv 3) pa_nil)) (pe_callB call_lenS rfl T.z_len PySem.boot_len (pa_cons (pe_call G_shortest (hr.mono (by decide)) rfl T.F10.mg T.F10.fn.kp T.F10.bd .nil pass0 (pa_cons (pv 1) pa_nil)) pa_nil))) pe_int))) pa_nil)) (pg_name (i := 4) sc_way_up.nd rfl (Or.inl rfl)) (pss_cons (ps_expr (pe_bmK K rfl PySem.F.plainAttrs_list PySem.F.slot_list_append PySem.F.type_list_append mt_append (pv 2) (pa_cons (pe_tup (pa_cons (pe_S [105, 110] (by decide +kernel)) (pa_cons (pv 0) (pa_cons pe_int (pa_cons (pe_call G_contrary (hr.mono (by decide)) rfl T.F0.mg T.F0.fn.kp T.F0.bd .nil pass0 (pa_cons (pv 4) pa_nil)) (pa_cons pe_int pa_nil)))))) pa_nil)))
      (pss_one (ps_expr (pe_bmK K rfl PySem.F.plainAttrs_list PySem.F.slot_list_append PySem.F.type_list_append mt_append (pv 2) (pa_cons (pe_tup (pa_cons (pe_S [116, 117, 114, 110] (by decide +kernel)) (pa_cons (pv 0) pa_nil))) pa_nil))))))
      (pss_cons (ps_for PassesOwn.never rfl (pi_revL K rfl rfl T.z_reversed (pa_cons (pe_call G_pairs_out (hr.mono (by decide)) rfl T.F13.mg T.F13.fn.kp T.F13.bd .nil pass0 (pa_cons (pv 1) pa_nil)) pa_nil)) (pg_name (i := 5) sc_way_up.nd rfl (Or.inl rfl)) (pss_one (ps_expr (pe_bmK K rfl PySem.F.plainAttrs_list PySem.F.slot_list_append PySem.F.type_list_append mt_append (pv 2) (pa_cons (pe_tup (pa_cons (pe_S [105, 110] (by decide +kernel)) (pa_cons (pv 0) (pa_cons (pe_ix (ix_tupK K rfl) (pv 5) pe_int (fun _ _ => rfl)) (pa_cons (pe_ix (ix_tupK K rfl) (pv 5) pe_int (fun _ _ => rfl)) (pa_cons pe_int pa_nil)))))) pa_nil)))))
      (pss_one (ps_ret (pv 2))))))), ?_⟩
  obtain ⟨y, c, w, rfl, hy, hwy, hz, q⟩ := h
  have hs : (100000 : Nat) < sizeLine := by decide
  have hw : ∀ c ∈ w, Lt c := fun c hc => hy.lt c (hwy c hc)
  have hrl := red_len w
  have hcl := core_len (red w)
  (repeat (first | refine ⟨_, rfl, ?_⟩ | refine ⟨_, _, rfl, rfl, ?_⟩ | refine ⟨_, _, _, rfl, rfl, by first | assumption | omega, by assumption, ?_⟩ | refine ⟨rfl, ?_⟩ | refine And.intro (by first | decide | omega | assumption | exact Nat.le_of_ble_eq_true rfl | exact .inl ⟨by decide, by decide⟩ | exact .inr ⟨by decide, by decide⟩ | exact ⟨by decide, by decide⟩ | exact ⟨by omega, by omega⟩) ?_))
  intro D nD
  have s1 := Same.upd (o := HO.lst []) nD
  have hD1 : DsAt H (upd H D (HO.lst [])) D [] := ⟨upd_same, fun _ h => absurd h List.not_mem_nil, s1⟩
  generalize upd H D (HO.lst []) = H1 at hD1 ⊢
  refine ⟨_, rfl, w, rfl, hw, by omega, fun H2 s2 => ?_⟩
  have hD2 := hD1.same s2
  obtain ⟨p, hpl, hpe⟩ := core_split (show AllLt (red w) from red_lt hw)
  have hlen : (red w).length = 2 * p.length + (core (red w)).length := by
    have := congrArg List.length hpe
    rw [List.length_append, List.length_append] at this
    unfold tnd at this
    simp at this
    omega
  have hpt : (red w).take p.length = p := by conv => lhs; rw [hpe]; rw [List.append_assoc, List.take_left]
  have hpm : ∀ x ∈ p, x ∈ y := fun x hx => hwy x (red_mem (by rw [hpe, List.append_assoc]; exact List.mem_append_left _ hx))
  refine ⟨_, rfl, _, rfl, red w, rfl, by omega, ?_⟩
  refine ⟨_, rfl, w, rfl, hw, by omega, fun H3 s3 => ⟨core (red w), rfl, by omega, _, _, rfl, rfl, ?_⟩⟩
  have hD3 := hD2.same s3
  clear hD1 hD2 s1 s2 s3
  refine ⟨_, _, rfl, rfl, ⟨by decide, by decide⟩, _, rfl, red w, rfl, by omega, ?_⟩
  have ehalf : (((red w).length : Int) - ((core (red w)).length : Int)) / 2 = ((p.length : Nat) : Int) := by omega
  rw [ehalf, cut_k, hpt]
  refine ⟨p, rfl, by omega, ?_⟩
  have erev : (sgs p).reverse = sgs p.reverse := by unfold sgs; rw [List.map_reverse]
  rw [erev]
  have hpr : ∀ x ∈ p.reverse, Lt x := fun x hx => hpl x (List.mem_reverse.mp hx)
  refine for_fix (xs := sgs p.reverse) (fun i σ H' => ∃ (ds : List Dd) (lv : Option V), σ = [some (.int c), some (.str (S w)), some (.ref D), some (.str (S (red w))), lv, none] /\ DsAt H H' D ds /\ ds.map Dd.e = upDs c (p.reverse.take i))
    ⟨[], none, rfl, hD3, rfl⟩ ?_ ?_
  · rintro i v σ H4 hv ⟨ds, lv, rfl, hD4, hde⟩
    obtain ⟨x, hx, rfl⟩ := sgs_get hv
    have hxl := hpr x (List.mem_of_getElem? hx)
    have hi : i < p.reverse.length := (List.getElem?_eq_some_iff.mp hx).1
    have hdl : ds.length <= 24 := by
      have := congrArg List.length hde
      rw [List.length_map, upDs_len, List.length_take] at this
      rw [List.length_reverse] at this hi
      omega
    refine ⟨_, rfl, .inl ⟨rfl, _, SqL.of hD4.ls⟩, _, rfl, _, rfl, x, rfl, hxl.lt, by show 5 <= sizeLine; decide, fun d1 n1 => ?_⟩
    have e1 := Same.upd (o := HO.tup [V.str (S [105, 110]), V.int c, V.int 0, V.str (S [ctr x]), V.int 0]) n1
    refine ⟨D, _, _, rfl, rfl, e1 _ _ hD4.ls, by rw [ddv_len]; omega, ?_⟩
    rw [show ddv ds ++ [V.ref d1] = ddv (ds ++ [⟨d1, .ins c 0 (ctr x) 0⟩]) from ddv_app2 ds ⟨d1, .ins c 0 (ctr x) 0⟩]
    have hD5 := hD4.push (e := .ins c 0 (ctr x) 0) nD e1 upd_same
    generalize upd (upd H4 d1 (HO.tup [V.str (S [105, 110]), V.int c, V.int 0, V.str (S [ctr x]), V.int 0])) D (HO.lst (ddv (ds ++ [⟨d1, .ins c 0 (ctr x) 0⟩]))) = H5 at hD5 ⊢
    refine ⟨_, rfl, .inl ⟨rfl, _, SqL.of hD5.ls⟩, _, rfl, by show 2 <= sizeLine; decide, fun d2 n2 => ?_⟩
    have e2 := Same.upd (o := HO.tup [V.str (S [116, 117, 114, 110]), V.int c]) n2
    refine ⟨D, _, _, rfl, rfl, e2 _ _ hD5.ls, by rw [ddv_len, List.length_append]; show ds.length + 1 < _; omega, ?_⟩
    rw [show ddv (ds ++ [⟨d1, .ins c 0 (ctr x) 0⟩]) ++ [V.ref d2] = ddv ((ds ++ [⟨d1, .ins c 0 (ctr x) 0⟩]) ++ [⟨d2, .turn c⟩]) from ddv_app2 _ ⟨d2, .turn c⟩]
    refine ⟨_, _, rfl, hD5.push (e := .turn c) nD e2 upd_same, ?_⟩
    rw [List.map_append, List.map_append, hde, List.take_succ, hx, List.append_assoc]
    show upDs c _ ++ _ = upDs c (p.reverse.take i ++ [x])
    rw [upDs_snoc]
    rfl
  · rintro σ H4 ⟨ds, lv, rfl, hD4, hde⟩
    rw [sgs_len, List.take_length] at hde
    have hup : WP y c (core (red w)) (ds.map Dd.e) (red w) := by
      rw [hde]
      have := WP.onall (y := y) (c := c) p (core (red w)) (fun x hx => ⟨hpl x hx, hy.cl x (hpm x hx)⟩) (by omega)
      rw [<- hpe] at this
      exact this
    have hdl : ds.length <= 24 := by
      have := congrArg List.length hde
      rw [List.length_map, upDs_len, List.length_reverse] at this
      omega
    refine ⟨_, rfl, w, rfl, hw, hz, fun t ps H5 nt ht hps ho s5 => ?_⟩
    have hpsl : ps.length <= 6 := by have := ho.len; rw [List.length_map] at this; omega
    have hD5 := hD4.same s5
    refine ⟨t, _, rfl, SqL.of ht, ?_⟩
    refine for_revL (K := K) (a := t) (xs := pqv ps) (fun i σ H' => ∃ (es : List Dd) (pv : Option V), σ = [some (.int c), some (.str (S w)), some (.ref D), some (.str (S (red w))), lv, pv] /\ DsAt H H' D es /\ es.map Dd.e = ds.map Dd.e ++ ((ps.reverse.take i).map fun p => .ins c p.k p.x 0) /\ SameB D H5 H')
      ⟨ds, none, rfl, hD5, by simp, SameB.refl _ _⟩ (fun i σ H' _ ⟨_, _, _, _, _, h⟩ => SqL.of (h _ _ ht (ne_of_none hD4.ls nt).symm)) ?_ ?_
    · rintro i v σ H6 hv ⟨es, pv, rfl, hD6, hee, s6⟩
      have hv2 : (pqv ps.reverse)[i]? = some v := by unfold pqv at hv ⊢; rw [<- List.map_reverse] at hv; exact hv
      obtain ⟨r, hr', rfl⟩ := pqv_at hv2
      have hrm : r ∈ ps := List.mem_reverse.mp (List.mem_of_getElem? hr')
      have hrk := hps r hrm
      have hrt : H6 r.t = _ := s6 _ _ hrk (fun z => by have := hD5.ls; rw [<- z, show H5 r.t = _ from hrk] at this; cases this)
      have hel : es.length <= 30 := by
        have := congrArg List.length hee
        rw [List.length_map, List.length_append, List.length_map, List.length_map, List.length_take, List.length_reverse] at this
        omega
      refine ⟨_, rfl, .inl ⟨rfl, _, SqL.of hD6.ls⟩, _, rfl, _, rfl, r.t, _, 0, _, rfl, rfl, SqT.of hrt, rfl, _, rfl, r.t, _, 1, _, rfl, rfl, SqT.of hrt, rfl, by show 5 <= sizeLine; decide, fun d1 n1 => ?_⟩
      have e1 := Same.upd (o := HO.tup [V.str (S [105, 110]), V.int c, V.int r.k, V.str (S [r.x]), V.int 0]) n1
      refine ⟨D, _, _, rfl, rfl, e1 _ _ hD6.ls, by rw [ddv_len]; omega, ?_⟩
      rw [show ddv es ++ [V.ref d1] = ddv (es ++ [⟨d1, .ins c r.k r.x 0⟩]) from ddv_app2 es ⟨d1, .ins c r.k r.x 0⟩]
      refine ⟨_, _, rfl, hD6.push (e := .ins c r.k r.x 0) nD e1 upd_same, ?_, fun a u ea na => by rw [upd_ne na]; exact e1 _ _ (s6 a u ea na)⟩
      rw [List.map_append, hee, List.take_succ, hr', List.append_assoc]
      show _ = _ ++ ((ps.reverse.take i ++ [r]).map _)
      rw [List.map_append]
      rfl
    · rintro σ H6 ⟨es, pv, rfl, hD6, hee, s6⟩
      rw [pqv_len, <- List.length_reverse, List.take_length] at hee
      have hel : es.length <= 100 := by
        have := congrArg List.length hee
        rw [List.length_map, List.length_append, List.length_map, List.length_map, List.length_reverse] at this
        omega
      refine ⟨_, rfl, q D es H6 nD hD6.ls hD6.de ?_ hel hD6.sm⟩
      show WP y c (core (red w)) (es.map Dd.e) w
      rw [hee]
      refine hup.app ?_
      have := ho.up (y := y) (c := c) hwy hz
      rw [<- List.map_reverse, List.map_map] at this
      exact this
theorem ok_word_road : FnOk P w K mg base CX0 5 f17 d17 ["cord", "one", "other"] (sp_word_road K) := by
  have G_turns_between := ok_turns_between (P := P) (w := w) (base := base) T
  have G_shortest := ok_shortest (P := P) (w := w) (base := base) T
  have G_way_down := ok_way_down (P := P) (w := w) (base := base) T
  have G_way_up := ok_way_up (P := P) (w := w) (base := base) T
  refine T.F17.fn.ok sc_word_road (fun vs H Q E h => len_word_road h) (fun cdv A outer s H vs Q E hr h => ?_)
  refine ⟨_, (pss_cons (ps_if (pt_cmpR op_eqS (pv 1) (pv 2) (nomark _)) (pss_one (ps_ret (pe_lst pa_nil))) pss_nil)
      (pss_cons (ps_set (i := 3) sc_word_road.nd rfl (Or.inl rfl) (pe_call G_turns_between (hr.mono (by decide)) rfl T.F16.mg T.F16.fn.kp T.F16.bd .nil pass0 (pa_cons (pe_call G_shortest (hr.mono (by decide)) rfl T.F10.mg T.F10.fn.kp T.F10.bd .nil pass0 (pa_cons (pv 1) pa_nil)) (pa_cons (pe_call G_shortest (hr.mono (by decide)) rfl T.F10.mg T.F10.fn.kp T.F10.bd .nil pass0 (pa_cons (pv 2) pa_nil)) pa_nil))))
      (pss_one (ps_ret (pe_op op_cat (pe_op op_cat (pe_call G_way_down (hr.mono (by decide)) rfl T.F14.mg T.F14.fn.kp T.F14.bd .nil pass0 (pa_cons (pv 0) (pa_cons (pv 1) pa_nil))) (pe_op op_rep (pe_lst (pa_cons (pe_tup (pa_cons (pe_S [116, 117, 114, 110] (by decide +kernel)) (pa_cons (pv 0) pa_nil))) pa_nil)) (pv 3))) (pe_call G_way_up (hr.mono (by decide)) rfl T.F15.mg T.F15.fn.kp T.F15.bd .nil pass0 (pa_cons (pv 0) (pa_cons (pv 2) pa_nil)))))))), ?_⟩
  obtain ⟨y, c, w, v, rfl, hy, hwy, hwz, hvy, hvz, hrg, q⟩ := h
  have hs : (100000 : Nat) < sizeLine := by decide
  have hw : ∀ c ∈ w, Lt c := fun c hc => hy.lt c (hwy c hc)
  have hv : ∀ c ∈ v, Lt c := fun c hc => hy.lt c (hvy c hc)
  refine ⟨_, rfl, _, rfl, w, v, rfl, rfl, _, rfl, ite2 (fun z => ?_) (fun z => ?_)⟩
  · have e : w = v := of_decide_eq_true z
    subst e
    refine ⟨Nat.zero_le _, fun t nt => ?_⟩
    exact q t [] _ nt upd_same (fun _ h => absurd h List.not_mem_nil) .nil (Nat.zero_le _) (Same.upd nt)
  · refine ⟨_, rfl, w, rfl, hw, by omega, fun H1 s1 => ?_⟩
    refine ⟨_, rfl, v, rfl, hv, by omega, fun H2 s2 => ?_⟩
    have hcl : (core (red w)).length <= 12 := Nat.le_trans (core_len _) (Nat.le_trans (red_len w) hwz)
    refine ⟨core (red w), core (red v), rfl, by omega, ring_turns hrg, fun t ht et => ?_⟩
    refine ⟨_, rfl, _, rfl, y, c, w, rfl, hw, hwz, fun a ds H3 na ha hds hwp hdl s3 => ?_⟩
    refine ⟨_, rfl, by show 2 <= sizeLine; decide, fun d1 n1 => ?_⟩
    have e1 := Same.upd (o := HO.tup [V.str (S [116, 117, 114, 110]), V.int c]) n1
    refine ⟨by show 1 <= sizeLine; decide, fun l1 nl1 => ?_⟩
    have e2 := Same.upd (o := HO.lst [V.ref d1]) nl1
    refine ⟨_, rfl, l1, (t : Int), [V.ref d1], rfl, rfl, upd_same, by omega, by omega, by simp; omega, fun l2 nl2 => ?_⟩
    rw [Int.toNat_natCast, rep_turn d1 c t]
    have e3 := Same.upd (o := HO.lst (ddv (List.replicate t ⟨d1, .turn c⟩))) nl2
    have e123 := (e1.trans e2).trans e3
    refine ⟨a, l2, _, _, rfl, rfl, e123 _ _ ha, upd_same, by rw [ddv_len, ddv_len, List.length_replicate]; omega, fun l3 nl3 => ?_⟩
    rw [ddv_cat]
    have e4 := Same.upd (o := HO.lst (ddv (ds ++ List.replicate t ⟨d1, .turn c⟩))) nl3
    have e1234 := e123.trans e4
    have hl3 : upd (upd (upd (upd H3 d1 (HO.tup [V.str (S [116, 117, 114, 110]), V.int c])) l1 (HO.lst [V.ref d1])) l2 (HO.lst (ddv (List.replicate t ⟨d1, .turn c⟩)))) l3 (HO.lst (ddv (ds ++ List.replicate t ⟨d1, .turn c⟩))) l3 = some (HO.lst (ddv (ds ++ List.replicate t ⟨d1, .turn c⟩))) := upd_same
    have hd1 : upd (upd (upd (upd H3 d1 (HO.tup [V.str (S [116, 117, 114, 110]), V.int c])) l1 (HO.lst [V.ref d1])) l2 (HO.lst (ddv (List.replicate t ⟨d1, .turn c⟩)))) l3 (HO.lst (ddv (ds ++ List.replicate t ⟨d1, .turn c⟩))) d1 = some (HO.tup [V.str (S [116, 117, 114, 110]), V.int c]) := ((e2.trans e3).trans e4) _ _ upd_same
    generalize upd (upd (upd (upd H3 d1 (HO.tup [V.str (S [116, 117, 114, 110]), V.int c])) l1 (HO.lst [V.ref d1])) l2 (HO.lst (ddv (List.replicate t ⟨d1, .turn c⟩)))) l3 (HO.lst (ddv (ds ++ List.replicate t ⟨d1, .turn c⟩))) = H4 at e1234 hl3 hd1 ⊢
    clear e1 e2 e3 e4 e123
    have s04 := ((s1.trans s2).trans s3).trans e1234
    refine ⟨_, rfl, _, rfl, y, c, v, rfl, hy, hvy, hvz, fun b es H5 nb hb hes hup hel s5 => ?_⟩
    refine ⟨l3, b, _, _, rfl, rfl, s5 _ _ hl3, hb, by rw [ddv_len, ddv_len, List.length_append, List.length_replicate]; omega, fun r nr => ?_⟩
    rw [ddv_cat]
    have e6 := Same.upd (o := HO.lst (ddv (ds ++ List.replicate t ⟨d1, .turn c⟩ ++ es))) nr
    refine q r (ds ++ List.replicate t ⟨d1, .turn c⟩ ++ es) _ (Same.free (s04.trans s5) nr) upd_same (fun x hx => ?_) ?_ (by rw [List.length_append, List.length_append, List.length_replicate]; omega) ((s04.trans s5).trans e6)
    · rcases List.mem_append.mp hx with g | g
      · rcases List.mem_append.mp g with g | g
        · exact (hds x g).ts (TSame.of ((e1234.trans s5).trans e6))
        · rw [(List.mem_replicate.mp g).2]
          exact (s5.trans e6) _ _ hd1
      · exact (hes x g).ts (TSame.of e6)
    · show WP y c w ((ds ++ List.replicate t (⟨d1, .turn c⟩ : Dd) ++ es).map Dd.e) v
      rw [List.map_append, List.map_append, List.map_replicate]
      refine (hwp.app ?_).app hup
      rw [<- et]
      exact WP.turns t ht
theorem ok_order_road : FnOk P w K mg base CX0 1 f18 d18 ["band", "one", "other"] (sp_order_road K) := by
  refine T.F18.fn.ok sc_order_road (fun vs H Q E h => len_order_road h) (fun cdv A outer s H vs Q E hr h => ?_)
  refine ⟨_, (pss_cons (ps_set (i := 3) sc_order_road.nd rfl (Or.inl rfl) (pe_lst pa_nil))
      (pss_cons (ps_set (i := 4) sc_order_road.nd rfl (Or.inl rfl) (pe_callTy (call_list_ofK K rfl) rfl T.z_list boot_list (pa_cons (pv 1) pa_nil)))
      (pss_cons (ps_for PassesOwn.never rfl (pi_enumT K rfl rfl T.z_enumerate (pa_cons (pv 2) pa_nil)) (pg_tupK (n := 2) K rfl rfl (pgs_cons (pg_name (i := 5) sc_order_road.nd rfl (Or.inl rfl)) (pgs_cons (pg_name (i := 6) sc_order_road.nd rfl (Or.inl rfl)) pgs_nil))) (pss_cons (ps_set (i := 7) sc_order_road.nd rfl (Or.inl rfl) (pe_bmK K rfl PySem.F.plainAttrs_list PySem.F.slot_list_index PySem.F.type_list_index (mt_indexD K rfl hr) (pv 4) (pa_cons (pv 6) pa_nil)))
      (pss_cons (ps_for PassesOwn.never rfl (pi_rangeD rfl T.z_range (pa_cons (pv 7) (pa_cons (pv 5) (pa_cons (pe_un un_neg pe_int) pa_nil)))) (pg_name (i := 8) sc_order_road.nd rfl (Or.inl rfl)) (pss_one (ps_expr (pe_bmK K rfl PySem.F.plainAttrs_list PySem.F.slot_list_append PySem.F.type_list_append mt_append (pv 3) (pa_cons (pe_tup (pa_cons (pe_S [115, 119, 97, 112] (by decide +kernel)) (pa_cons (pv 0) (pa_cons (pe_op op_sub (pv 8) pe_int) pa_nil)))) pa_nil)))))
      (pss_one (ps_expr (pe_bmK K rfl PySem.F.plainAttrs_list PySem.F.slot_list_insert PySem.F.type_list_insert mt_insert (pv 4) (pa_cons (pv 5) (pa_cons (pe_bmK K rfl PySem.F.plainAttrs_list PySem.F.slot_list_pop PySem.F.type_list_pop mt_popAt (pv 4) (pa_cons (pv 7) pa_nil)) pa_nil))))))))
      (pss_one (ps_ret (pv 3)))))), ?_⟩
  obtain ⟨b, o, r, rfl, ho, hr', hpm, hnd, q⟩ := h
  have hs : (100000 : Nat) < sizeLine := by decide
  have hof := ho.fw
  have hrf := hr'.fw
  (repeat (first | refine ⟨_, rfl, ?_⟩ | refine ⟨_, _, rfl, rfl, ?_⟩ | refine ⟨_, _, _, rfl, rfl, by first | assumption | omega, by assumption, ?_⟩ | refine ⟨rfl, ?_⟩ | refine And.intro (by first | decide | omega | assumption | exact Nat.le_of_ble_eq_true rfl | exact .inl ⟨by decide, by decide⟩ | exact .inr ⟨by decide, by decide⟩ | exact ⟨by decide, by decide⟩ | exact ⟨by omega, by omega⟩) ?_))
  intro D nD
  have s1 := Same.upd (o := HO.lst []) nD
  have hD1 : DsAt H (upd H D (HO.lst [])) D [] := ⟨upd_same, fun _ h => absurd h List.not_mem_nil, s1⟩
  generalize upd H D (HO.lst []) = H1 at hD1 s1 ⊢
  refine ⟨_, rfl, o.o, _, rfl, .inr (SqT.of (s1 _ _ ho.tp)), fun l nl => ?_⟩
  have s2 := Same.upd (o := HO.lst (prv o.ps)) nl
  have hl2 : upd H1 l (HO.lst (prv o.ps)) l = some (HO.lst (prv o.ps)) := upd_same
  have hD2 := hD1.same s2
  have nl0 : H l = none := Same.free s1 nl
  have hlD : l ≠ D := (ne_of_none hD1.ls nl).symm
  have hok2 : ∀ p ∈ o.ps, PrOk (upd H1 l (HO.lst (prv o.ps))) p := fun p hp => (ho.pr p hp).same (s1.trans s2)
  generalize upd H1 l (HO.lst (prv o.ps)) = H2 at hl2 hD2 hok2 s2 ⊢
  have hrt := (s1.trans s2) _ _ hr'.tp
  refine ⟨_, rfl, r.o, rfl, ⟨_, SqT.of hrt⟩, ?_⟩
  refine for_enumT (K := K) (a := r.o) (xs := prv r.ps) (fun i σ H' => ∃ (cur : List Pr) (ds : List Dd) (ks : List Nat) (nv sv pv bv : Option V), σ = [some (.str (S [b])), some (.ref o.o), some (.ref r.o), some (.ref D), some (.ref l), nv, sv, pv, bv] /\ DsAt H H' D ds /\ H' l = some (.lst (prv cur)) /\ (∀ p ∈ cur, PrOk H' p) /\
      ds.map Dd.e = ks.map (fun k => .swap b k) /\ SP (prs o) ks (cur.map Pr.pair) /\ (cur.map Pr.pair).take i = (prs r).take i /\ ds.length <= 100 * i)
    ⟨o.ps, [], [], none, none, none, none, rfl, hD2, hl2, hok2, rfl, .nil, rfl, Nat.zero_le _⟩ (fun i σ H' _ ⟨_, _, _, _, _, _, _, _, h, _⟩ => SqT.of (h.sm _ _ hr'.tp)) ?_ ?_
  · rintro i x σ H3 T hx ⟨cur, ds, ks, nv, sv, pv, bv, rfl, hD3, hl3, hok3, hde, hsp, htk, hdl⟩ nT
    obtain ⟨p, hp, rfl⟩ := prv_at hx
    have hi : i < r.ps.length := (List.getElem?_eq_some_iff.mp hp).1
    have hrp : (prs r)[i]? = some p.pair := by unfold prs; rw [List.getElem?_map, hp]; rfl
    have hpk3 := (hr'.pr p (List.mem_of_getElem? hp)).same hD3.sm
    have hcp : (cur.map Pr.pair).Perm (prs r) := hsp.perm.trans hpm
    have hcl : cur.length = r.ps.length := by have := hcp.length_eq; unfold prs at this; rwa [List.length_map, List.length_map] at this
    obtain ⟨j, hj, hjn⟩ := idx_split (hcp.mem_iff.mpr (List.mem_of_getElem? hrp))
    have hjl : j < cur.length := by have := (List.getElem?_eq_some_iff.mp hj).1; rwa [List.length_map] at this
    have hij : i <= j := by
      rcases Nat.lt_or_ge j i with g | g
      · exfalso
        have h1 : (prs r)[j]? = some p.pair := by
          have := congrArg (fun l : List (Nat × Nat) => l[j]?) htk
          simp only [List.getElem?_take, if_pos g] at this
          rw [<- this]; exact hj
        obtain ⟨a1, a2⟩ := List.getElem?_eq_some_iff.mp h1
        obtain ⟨b1, b2⟩ := List.getElem?_eq_some_iff.mp hrp
        have := (List.getElem_inj hnd).mp (a2.trans b2.symm)
        omega
      · exact g
    obtain ⟨cp, hcj, ecp⟩ : ∃ cp, cur[j]? = some cp /\ cp.pair = p.pair := by
      rw [List.getElem?_map] at hj
      cases e : cur[j]? with
      | none => rw [e] at hj; cases hj
      | some cp => rw [e] at hj; exact ⟨cp, rfl, Option.some.inj hj⟩
    refine ⟨T, _, rfl, SqT.of upd_same, rfl, _, _, rfl, _, _, rfl, rfl, ?_⟩
    have sT := Same.upd (o := HO.tup [.int i, .ref p.t]) nT
    have hD4 := hD3.same sT
    have hl4 := sT _ _ hl3
    have hok4 : ∀ p' ∈ cur, PrOk (upd H3 T (HO.tup [.int i, .ref p.t])) p' := fun p' hp' => (hok3 p' hp').same sT
    have hpk4 := hpk3.same sT
    generalize upd H3 T (HO.tup [.int i, .ref p.t]) = H4 at hD4 hl4 hok4 hpk4 ⊢
    clear sT nT hD3 hl3 hok3 hpk3
    have hcj2 := List.mem_of_getElem? hcj
    have hatd : ((cur.map Pr.pair).map prD)[j]? = some (prD p.pair) := by rw [List.getElem?_map, hj]; rfl
    refine ⟨_, rfl, .inl ⟨rfl, _, SqL.of hl4⟩, _, rfl, ?_⟩
    refine ⟨l, prv cur, .ref p.t, (cur.map Pr.pair).map prD, prD p.pair, j, rfl, rfl, hl4, rdds_prs hok4, .tup (SqT.of hpk4.tp) (.cons (.int _) (.cons (.int _) .nil)), ⟨(sms_prs (k := 0) hok4).ly, rfl⟩, by show 1 <= 60; decide, ⟨_, hatd, by rw [eqv_pr]; exact decide_eq_true rfl⟩, fun m e hm he => ?_, ?_⟩
    · rw [List.getElem?_map] at he
      cases e2 : (cur.map Pr.pair)[m]? with
      | none => rw [e2] at he; cases he
      | some u =>
        rw [e2] at he
        cases he
        rw [eqv_pr]
        exact decide_eq_false (hjn m u hm e2)
    refine ⟨_, rfl, _, rfl, _, rfl, (j : Int), (i : Int), rfl, ⟨by omega, by omega, by omega, by omega⟩, ?_⟩
    have ejn : ((j : Int) - (i : Int)).toNat = j - i := by omega
    rw [ejn]
    refine for_rangeD (fun t σ H' => ∃ (es : List Dd) (bv : Option V), σ = [some (.str (S [b])), some (.ref o.o), some (.ref r.o), some (.ref D), some (.ref l), some (.int i), some (.ref p.t), some (.int j), bv] /\ DsAt H H' D es /\ H' l = some (.lst (prv cur)) /\ (∀ p ∈ cur, PrOk H' p) /\ es.map Dd.e = ks.map (fun k => .swap b k) ++ (downK j t).map (fun k => .swap b k))
      ⟨ds, bv, rfl, hD4, hl4, hok4, by rw [hde]; simp [downK]⟩ ?_ ?_
    · rintro t σ H5 ht ⟨es, bv5, rfl, hD5, hl5, hok5, hee⟩
      have hkl : ks.length = ds.length := by have := congrArg List.length hde; rw [List.length_map, List.length_map] at this; exact this.symm
      have hel : es.length <= 10100 := by
        have := congrArg List.length hee
        rw [List.length_map, List.length_append, List.length_map, List.length_map, downK_len, hkl] at this
        omega
      have ev : (j : Int) - (t : Int) - 1 = ((j - 1 - t : Nat) : Int) := by omega
      refine ⟨_, rfl, .inl ⟨rfl, _, SqL.of hD5.ls⟩, _, rfl, _, rfl, _, _, rfl, rfl, by show 3 <= sizeLine; decide, fun d1 n1 => ?_⟩
      have e1 := Same.upd (o := HO.tup [V.str (S [115, 119, 97, 112]), V.str (S [b]), V.int ((j : Int) - (t : Int) - 1)]) n1
      refine ⟨D, _, _, rfl, rfl, e1 _ _ hD5.ls, by rw [ddv_len]; omega, ?_⟩
      rw [show ddv es ++ [V.ref d1] = ddv (es ++ [⟨d1, .swap b (j - 1 - t)⟩]) from ddv_app2 es ⟨d1, .swap b (j - 1 - t)⟩]
      have hD6 := hD5.push (e := .swap b (j - 1 - t)) nD e1 (by show upd H5 d1 _ d1 = _; rw [upd_same, ev]; rfl)
      have tU := TSame.updL (o := HO.lst (ddv (es ++ [⟨d1, .swap b (j - 1 - t)⟩]))) (e1 _ _ hD5.ls)
      refine ⟨_, _, rfl, hD6, by rw [upd_ne hlD]; exact e1 _ _ hl5, fun p' hp' => ((hok5 p' hp').same e1).ts tU, ?_⟩
      rw [List.map_append, hee, downK_snoc, List.map_append, List.append_assoc]
      rfl
    · rintro σ H5 ⟨es, bv5, rfl, hD5, hl5, hok5, hee⟩
      have hvj : (prv cur)[j]? = some (V.ref cp.t) := by unfold prv; rw [List.getElem?_map, hcj]; rfl
      refine ⟨_, rfl, .inl ⟨rfl, _, SqL.of hl5⟩, _, rfl, _, rfl, .inl ⟨rfl, _, SqL.of hl5⟩, _, rfl, ?_⟩
      refine ⟨l, _, _, j, V.ref cp.t, rfl, rfl, hl5, by omega, by omega, by rw [prv_len, seqIndex_of (by omega) (by omega), Int.toNat_natCast], hvj, ?_⟩
      have hle : ((prv cur).eraseIdx j).length = cur.length - 1 := by rw [List.length_eraseIdx, prv_len, if_pos hjl]
      refine ⟨l, _, i, V.ref cp.t, rfl, rfl, upd_same, by rw [hle]; omega, by rw [hle]; omega, ?_⟩
      rw [upd_upd, prv_brought]
      have tU := TSame.updL (o := HO.lst (prv (brought cur i j cp))) hl5
      obtain ⟨b1, b2⟩ := bring hij hj
      have hbp : (brought cur i j cp).map Pr.pair = (cur.map Pr.pair).take i ++ p.pair :: ((cur.map Pr.pair).drop i).take (j - i) ++ (cur.map Pr.pair).drop (j + 1) := by rw [pair_brought, ecp]; exact b2
      have hml : (cur.map Pr.pair).length = cur.length := List.length_map _
      have hti : ((cur.map Pr.pair).take i).length = i := by rw [List.length_take]; omega
      refine ⟨brought cur i j cp, es, ks ++ downK j (j - i), _, _, _, _, rfl, ⟨by rw [upd_ne hlD.symm]; exact hD5.ls, fun x hx => (hD5.de x hx).ts tU, fun x u ex => by rw [upd_ne (ne_of_none ex nl0)]; exact hD5.sm _ _ ex⟩, upd_same, fun p' hp' => (hok5 p' (mem_brought hcj2 hp')).ts tU, by rw [hee, List.map_append], ?_, ?_, ?_⟩
      · have sd := SP.down ((cur.map Pr.pair).take i) p.pair (j - i) (((cur.map Pr.pair).drop i).take (j - i)) ((cur.map Pr.pair).drop (j + 1)) (by rw [List.length_take, List.length_drop]; omega)
        rw [hti, show i + (j - i) = j by omega, <- b1, <- hbp] at sd
        exact hsp.app sd
      · rw [hbp, List.append_assoc, List.take_append, hti, List.take_of_length_le (by omega), show i + 1 - i = 1 by omega, htk, List.take_succ (i := i) (l := prs r), hrp]
        rfl
      · have := congrArg List.length hee
        have h2 := congrArg List.length hde
        rw [List.length_map, List.length_map] at h2
        rw [List.length_map, List.length_append, List.length_map, List.length_map, downK_len] at this
        omega
  · rintro σ H3 ⟨cur, ds, ks, nv, sv, pv, bv, rfl, hD3, hl3, hok3, hde, hsp, htk, hdl⟩
    rw [prv_len] at htk hdl
    have hcp : (cur.map Pr.pair).Perm (prs r) := hsp.perm.trans hpm
    have hrl : (prs r).length = r.ps.length := by unfold prs; rw [List.length_map]
    have hcl := hcp.length_eq
    rw [List.take_of_length_le (by omega), List.take_of_length_le (by omega)] at htk
    refine ⟨_, rfl, q D ds H3 nD hD3.ls hD3.de ⟨ks, hde, by rw [<- htk]; exact hsp⟩ (by omega) hD3.sm⟩
theorem ok_road : FnOk P w K mg base CX0 7 f20 d20 ["yard", "one", "other"] (sp_road K) := by
  have G_same_cords := ok_same_cords (P := P) (w := w) (base := base) T
  have G_word_road := ok_word_road (P := P) (w := w) (base := base) T
  have G_done := ok_done (P := P) (w := w) (base := base) T
  have G_bands := ok_bands (P := P) (w := w) (base := base) T
  have G_order_road := ok_order_road (P := P) (w := w) (base := base) T
  refine T.F20.fn.ok sc_road (fun vs H Q E h => len_road h) (fun cdv A outer s H vs Q E hr h => ?_)
  refine ⟨_, (pss_cons (ps_if (pt_not (pt_val (pe_call G_same_cords (hr.mono (by decide)) rfl T.F19.mg T.F19.fn.kp T.F19.bd .nil pass0 (pa_cons (pe_ix (ix_tupK K rfl) (pv 1) pe_int (fun _ _ => rfl)) (pa_cons (pe_ix (ix_tupK K rfl) (pv 2) pe_int (fun _ _ => rfl)) pa_nil))))) (pss_one (ps_ret pe_non)) pss_nil)
      (pss_cons (ps_set (i := 3) sc_road.nd rfl (Or.inl rfl) (pe_lst pa_nil))
      (pss_cons (ps_for PassesOwn.never rfl (pi_enumT K rfl rfl T.z_enumerate (pa_cons (pe_ix (ix_tupK K rfl) (pv 1) pe_int (fun _ _ => rfl)) pa_nil)) (pg_tupK (n := 2) K rfl rfl (pgs_cons (pg_name (i := 4) sc_road.nd rfl (Or.inl rfl)) (pgs_cons (pg_name (i := 5) sc_road.nd rfl (Or.inl rfl)) pgs_nil))) (pss_one (ps_expr (pe_bmK K rfl PySem.F.plainAttrs_list PySem.F.slot_list_extend PySem.F.type_list_extend mt_extend (pv 3) (pa_cons (pe_call G_word_road (hr.mono (by decide)) rfl T.F17.mg T.F17.fn.kp T.F17.bd .nil pass0 (pa_cons (pv 4) (pa_cons (pv 5) (pa_cons (pe_ix (ix_tupK K rfl) (pe_ix (ix_tupK K rfl) (pv 2) pe_int (fun _ _ => rfl)) (pv 4) (fun _ _ => rfl)) pa_nil)))) pa_nil)))))
      (pss_cons (ps_set (i := 6) sc_road.nd rfl (Or.inl rfl) (pe_call G_done (hr.mono (by decide)) rfl T.F8.mg T.F8.fn.kp T.F8.bd .nil pass0 (pa_cons (pv 0) (pa_cons (pv 1) (pa_cons (pv 3) pa_nil)))))
      (pss_cons (ps_for PassesOwn.never rfl (pi_enumS rfl T.z_enumerate (pa_cons (pe_call G_bands (hr.mono (by decide)) rfl T.F1.mg T.F1.fn.kp T.F1.bd .nil pass0 (pa_cons (pv 0) pa_nil)) pa_nil)) (pg_tupK (n := 2) K rfl rfl (pgs_cons (pg_name (i := 7) sc_road.nd rfl (Or.inl rfl)) (pgs_cons (pg_name (i := 8) sc_road.nd rfl (Or.inl rfl)) pgs_nil))) (pss_one (ps_expr (pe_bmK K rfl PySem.F.plainAttrs_list PySem.F.slot_list_extend PySem.F.type_list_extend mt_extend (pv 3) (pa_cons (pe_call G_order_road (hr.mono (by decide)) rfl T.F18.mg T.F18.fn.kp T.F18.bd .nil pass0 (pa_cons (pv 8) (pa_cons (pe_ix (ix_tupK K rfl) (pe_ix (ix_tupK K rfl) (pv 6) pe_int (fun _ _ => rfl)) (pv 7) (fun _ _ => rfl)) (pa_cons (pe_ix (ix_tupK K rfl) (pe_ix (ix_tupK K rfl) (pv 2) pe_int (fun _ _ => rfl)) (pv 7) (fun _ _ => rfl)) pa_nil)))) pa_nil)))))
      (pss_one (ps_ret (pv 3)))))))), ?_⟩
  obtain ⟨y, d, e, ws, vs', os, ps, rfl, hy, hy8, hg1, hg2, hd, he, qN, qS⟩ := h
  have hs : (100000 : Nat) < sizeLine := by decide
  obtain ⟨⟨wt1, ot1, a1, a2, a3⟩, aO⟩ := id hd
  obtain ⟨⟨wt2, ot2, b1, b2, b3⟩, bO⟩ := id he
  have hbl := bsOf_len hy
  have lt1 : ∀ w ∈ ws, (∀ c ∈ w, Lt c) /\ w.length <= 12 := fun w hw => ⟨fun c hc => hy.lt c ((hg1.all12 w hw).1 c hc), (hg1.all12 w hw).2⟩
  have lt2 : ∀ w ∈ vs', (∀ c ∈ w, Lt c) /\ w.length <= 12 := fun w hw => ⟨fun c hc => hy.lt c ((hg2.all12 w hw).1 c hc), (hg2.all12 w hw).2⟩
  have hwf := hg1.few
  have hvf := hg2.few
  refine ⟨_, rfl, d, _, 0, _, rfl, rfl, SqT.of a1, rfl, _, rfl, e, _, 0, _, rfl, rfl, SqT.of b1, rfl, wt1, wt2, ws, vs', rfl, a2, b2, hg1.few, hg2.few, lt1, lt2, fun H1 s1 => ⟨_, rfl, ite2 (fun z => ?_) (fun z => ?_)⟩⟩
  · have hne : ws.map ringM ≠ vs'.map ringM := fun g => by rw [decide_eq_true g] at z; cases z
    exact qN hne H1 s1
  have heq : ws.map ringM = vs'.map ringM := by
    by_cases g : ws.map ringM = vs'.map ringM
    · exact g
    · rw [decide_eq_false g] at z; exact absurd rfl z
  have q := qS heq
  have hlen : ws.length = vs'.length := by have := congrArg List.length heq; rwa [List.length_map, List.length_map] at this
  (repeat (first | refine ⟨_, rfl, ?_⟩ | refine ⟨_, _, rfl, rfl, ?_⟩ | refine ⟨_, _, _, rfl, rfl, by first | assumption | omega, by assumption, ?_⟩ | refine ⟨rfl, ?_⟩ | refine And.intro (by first | decide | omega | assumption | exact Nat.le_of_ble_eq_true rfl | exact .inl ⟨by decide, by decide⟩ | exact .inr ⟨by decide, by decide⟩ | exact ⟨by decide, by decide⟩ | exact ⟨by omega, by omega⟩) ?_))
  intro D nD
  have s2 := s1.trans (Same.upd (o := HO.lst []) nD)
  have hD2 : DsAt H (upd H1 D (HO.lst [])) D [] := ⟨upd_same, fun _ h => absurd h List.not_mem_nil, s2⟩
  have nD0 : H D = none := Same.free s1 nD
  generalize upd H1 D (HO.lst []) = H2 at hD2 s2 ⊢
  refine ⟨_, rfl, d, _, 0, _, rfl, rfl, SqT.of (s2 _ _ a1), rfl, wt1, rfl, ⟨_, SqT.of (s2 _ _ a2)⟩, ?_⟩
  refine for_enumT (K := K) (a := wt1) (xs := txs ws) (fun j σ H' => ∃ (ds : List Dd) (cv wv : Option V), σ = [some (.str (S y)), some (.ref d), some (.ref e), some (.ref D), cv, wv, none, none, none] /\ DsAt H H' D ds /\ Path y ws (os.map prs) (ds.map Dd.e) /\ (runD y ws (os.map prs) (ds.map Dd.e)).1 = vs'.take j ++ ws.drop j /\ Good y (vs'.take j ++ ws.drop j) (runD y ws (os.map prs) (ds.map Dd.e)).2 /\ ds.length <= 1000 * j)
    ⟨[], none, none, rfl, hD2, trivial, rfl, hg1, Nat.zero_le _⟩ (fun j σ H' _ ⟨_, _, _, _, h, _⟩ => SqT.of (h.sm _ _ a2)) ?_ ?_
  · rintro j x σ H3 T hx ⟨ds, cv, wv, rfl, hD3, hP3, hR3, hG3, hl3⟩ nT
    have hj : j < ws.length := by
      have := (List.getElem?_eq_some_iff.mp hx).1
      rwa [txs_len] at this
    rw [txs_at hj] at hx
    cases hx
    have hjw : ws[j]? = some ws[j] := List.getElem?_eq_getElem hj
    have hjv : vs'[j]? = some (vs'[j]'(by omega)) := List.getElem?_eq_getElem (by omega)
    obtain ⟨hwy, hwz⟩ := hg1.all12 _ (List.getElem_mem hj)
    have hrg : ringM ws[j] = ringM (vs'[j]'(by omega)) := by
      have := congrArg (fun l : List (List Nat) => l[j]?) heq
      simp only [List.getElem?_map, hjw, hjv] at this
      exact Option.some.inj this
    obtain ⟨hvy, hvz⟩ := hg2.all12 _ (List.mem_of_getElem? hjv)
    generalize ws[j] = w at hjw hwy hwz hrg ⊢
    generalize (vs'[j]'(by omega)) = v at hjv hvy hvz hrg
    refine ⟨T, _, rfl, SqT.of upd_same, rfl, _, _, rfl, _, _, rfl, rfl, ?_⟩
    have sT := Same.upd (o := HO.tup [.int j, .str (S w)]) nT
    have hD4 := hD3.same sT
    generalize upd H3 T (HO.tup [.int j, .str (S w)]) = H4 at hD4 ⊢
    clear sT nT hD3
    refine ⟨_, rfl, .inl ⟨rfl, _, SqL.of hD4.ls⟩, _, rfl, _, rfl, _, rfl, e, _, 0, _, rfl, rfl, SqT.of (hD4.sm _ _ b1), rfl, _, rfl, wt2, _, _, _, rfl, rfl, SqT.of (hD4.sm _ _ b2), atI_nat (txs_get2 hjv), ?_⟩
    refine ⟨y, j, w, v, rfl, hy, hwy, hwz, hvy, hvz, hrg, fun b es H5 nb hb hes hwp hel s5 => ?_⟩
    have hmg : ((runD y ws (os.map prs) (ds.map Dd.e)).1)[j]? = some w := by rw [hR3]; exact mix_get (by omega) hjw
    rw [<- hR3] at hG3
    obtain ⟨l1, l2, l3⟩ := WP.lift hy hwp hG3 hmg
    rw [hR3, mix_set hj hjv] at l2 l3
    refine ⟨D, b, _, _, rfl, rfl, s5 _ _ hD4.ls, hb, by rw [ddv_len, ddv_len]; omega, ?_⟩
    rw [ddv_cat]
    refine ⟨ds ++ es, _, _, rfl, hD4.ext (b := b) nD0 s5 hes, ?_, ?_, ?_, by rw [List.length_append]; omega⟩
    · rw [List.map_append]; exact path_app hP3 l1
    · rw [List.map_append, run_app, hR3]; exact l2
    · rw [List.map_append, run_app, hR3]; exact l3
  · rintro σ H3 ⟨ds, cv, wv, rfl, hD3, hP3, hR3, hG3, hl3⟩
    rw [txs_len] at hR3 hG3 hl3
    have e1 : vs'.take ws.length ++ ws.drop ws.length = vs' := by rw [List.drop_length, List.append_nil, List.take_of_length_le (by omega)]
    rw [e1] at hR3 hG3
    refine ⟨_, rfl, _, rfl, _, rfl, y, d, ws, os, D, ds, rfl, hy, hy8, hg1, hd.same hD3.sm, hD3.ls, hD3.de, by omega, hP3, fun m ms H4 hm hms hmg s4 => ?_⟩
    rw [hR3] at hm hmg
    obtain ⟨⟨wt3, ot3, m1, m2, m3⟩, mO⟩ := hm
    have hD4 := hD3.same s4
    refine ⟨_, rfl, y, rfl, fun c hc => (hy.lt c hc).lt, by omega, fun l0 H7 hl0 hw0 s7 => ?_⟩
    have el := bsOf_eq hl0 hw0
    subst el
    have hD7 := hD4.same s7
    refine ⟨_, rfl, ?_⟩
    have hrun : runD y ws (os.map prs) (ds.map Dd.e) = (vs', ms.map prs) := by rw [hms, <- hR3]
    have t47 : TSame H4 H7 := TSame.of s7
    refine for_enum (l := bsOf y) (fun k σ H' => ∃ (fs : List Dd) (nv bv : Option V), σ = [some (.str (S y)), some (.ref d), some (.ref e), some (.ref D), cv, wv, some (.ref m), nv, bv] /\ DsAt H H' D fs /\ TSame H4 H' /\ Path y ws (os.map prs) (fs.map Dd.e) /\ runD y ws (os.map prs) (fs.map Dd.e) = (vs', (ps.map prs).take k ++ (ms.map prs).drop k) /\ fs.length <= 4000 + 10000 * k)
      ⟨ds, none, none, rfl, hD7, t47, hP3, hrun, by omega⟩ ?_ ?_
    · rintro k b σ H8 T hk ⟨fs, nv, bv, rfl, hD8, t8, hP8, hR8, hl8⟩ nT
      have hkb : k < (bsOf y).length := (List.getElem?_eq_some_iff.mp hk).1
      have lm : ms.length = (bsOf y).length := by have := hmg.lk.1; rwa [List.length_map] at this
      have lp : ps.length = (bsOf y).length := by have := hg2.lk.1; rwa [List.length_map] at this
      obtain ⟨o, ho⟩ : ∃ o, ms[k]? = some o := ⟨_, List.getElem?_eq_getElem (by omega)⟩
      obtain ⟨p, hp⟩ : ∃ p, ps[k]? = some p := ⟨_, List.getElem?_eq_getElem (by omega)⟩
      have hoL : (ms.map prs)[k]? = some (prs o) := by rw [List.getElem?_map, ho]; rfl
      have hpL : (ps.map prs)[k]? = some (prs p) := by rw [List.getElem?_map, hp]; rfl
      have pm1 := hmg.lk.2 k _ b hoL hk
      have pm2 := hg2.lk.2 k _ b hpL hk
      refine ⟨T, _, rfl, SqT.of upd_same, rfl, _, _, rfl, _, _, rfl, rfl, ?_⟩
      have sT := Same.upd (o := HO.tup [.int k, .str (S [b])]) nT
      have hD9 := hD8.same sT
      have t9 : TSame H4 (upd H8 T (HO.tup [.int k, .str (S [b])])) := fun c xs x => sT _ _ (t8 c xs x)
      generalize upd H8 T (HO.tup [.int k, .str (S [b])]) = H9 at hD9 t9 ⊢
      clear sT nT hD8
      refine ⟨_, rfl, .inl ⟨rfl, _, SqL.of hD9.ls⟩, _, rfl, _, rfl, m, _, 1, _, rfl, rfl, SqT.of (t9 _ _ m1), rfl, _, rfl, ot3, _, _, _, rfl, rfl, SqT.of (t9 _ _ m3), atI_nat (odv_get ho), _, rfl, e, _, 1, _, rfl, rfl, SqT.of (hD9.sm _ _ b1), rfl, _, rfl, ot2, _, _, _, rfl, rfl, SqT.of (hD9.sm _ _ b3), atI_nat (odv_get hp), ?_⟩
      refine ⟨b, o, p, rfl, (mO o (List.mem_of_getElem? ho)).ts t9, (bO p (List.mem_of_getElem? hp)).same hD9.sm, pm1.trans pm2.symm, pm2.nodup_iff.mpr (strAll_nd2 _ _ _), fun b2 es H5 nb hb hes hwp hel s5 => ?_⟩
      obtain ⟨ks, ek, hsp⟩ := hwp
      have hmx : ((ps.map prs).take k ++ (ms.map prs).drop k)[k]? = some (prs o) := mix_get (by rw [List.length_map]; omega) hoL
      obtain ⟨l1, l2⟩ := SP.lift (ws := vs') hy hsp hk hmx
      rw [<- ek] at l1 l2
      rw [mix_set (by rw [List.length_map]; omega) hpL] at l2
      refine ⟨D, b2, _, _, rfl, rfl, s5 _ _ hD9.ls, hb, by rw [ddv_len, ddv_len]; omega, ?_⟩
      rw [ddv_cat]
      refine ⟨fs ++ es, _, _, rfl, hD9.ext (b := b2) nD0 s5 hes, fun c xs x => ?_, ?_, ?_, by rw [List.length_append]; omega⟩
      · exact (TSame.updL (s5 _ _ hD9.ls)) c xs (s5 _ _ (t9 c xs x))
      · rw [List.map_append]; exact path_app hP8 (by rw [hR8]; exact l1)
      · rw [List.map_append, run_app, hR8]; exact l2
    · rintro σ H8 ⟨fs, nv, bv, rfl, hD8, t8, hP8, hR8, hl8⟩
      have lm : ms.length = (bsOf y).length := by have := hmg.lk.1; rwa [List.length_map] at this
      have lp : ps.length = (bsOf y).length := by have := hg2.lk.1; rwa [List.length_map] at this
      rw [List.take_of_length_le (by rw [List.length_map]; omega), List.drop_eq_nil_of_le (by rw [List.length_map]; omega), List.append_nil] at hR8
      exact ⟨_, rfl, q D fs H8 nD0 hD8.ls hD8.de ⟨hP8, hR8⟩ (by omega) hD8.sm⟩
theorem ok_Lright : FnOk P w K mg base CX0 8 f32 d32 ["_law_yard_here", "_law_one", "_law_other_here"] (sp_Lright K) := by
  have G_road := ok_road (P := P) (w := w) (base := base) T
  have G_Lring := ok_Lring (P := P) (w := w) (base := base) T
  have G_done := ok_done (P := P) (w := w) (base := base) T
  refine T.F32.fn.ok sc_Lright (fun vs H Q E h => len_Lright h) (fun cdv A outer s H vs Q E hr h => ?_)
  refine ⟨_, (pss_cons (ps_set (i := 3) sc_Lright.nd rfl (Or.inl rfl) (pe_call G_road (hr.mono (by decide)) rfl T.F20.mg T.F20.fn.kp T.F20.bd .nil pass0 (pa_cons (pv 0) (pa_cons (pv 1) (pa_cons (pv 2) pa_nil)))))
      (pss_cons (ps_if (pt_cmpR (op_neD K rfl hr) (pe_compB ["_law_word_here"] [none] (pi_tupK K rfl (pe_ix (ix_tupK K rfl) (pv 1) pe_int (fun _ _ => rfl))) trivial (fun _ _ _ _ => (pg_name (i := 0) (by decide +kernel : List.Nodup (["_law_word_here"] : List Str)) rfl (Or.inl rfl))) (fun _ _ _ _ => pf_nil) (fun _ _ _ _ => (pe_call G_Lring (hr.mono (by decide)) rfl T.F30.mg T.F30.fn.kp T.F30.bd .nil pass0 (pa_cons (pv 0) pa_nil)))) (pe_compB ["_law_word_here"] [none] (pi_tupK K rfl (pe_ix (ix_tupK K rfl) (pv 2) pe_int (fun _ _ => rfl))) trivial (fun _ _ _ _ => (pg_name (i := 0) (by decide +kernel : List.Nodup (["_law_word_here"] : List Str)) rfl (Or.inl rfl))) (fun _ _ _ _ => pf_nil) (fun _ _ _ _ => (pe_call G_Lring (hr.mono (by decide)) rfl T.F30.mg T.F30.fn.kp T.F30.bd .nil pass0 (pa_cons (pv 0) pa_nil)))) (nomark _)) (pss_one (ps_ret (pe_cmpR op_isN (pv 3) pe_non (nomark _)))) pss_nil)
      (pss_one (ps_ret (pe_and (pe_callB (call_isList K rfl) rfl T.z_isinstance boot_isinstance (pa_cons (pv 3) (pa_cons (pe_bltn (v := .ty "list") rfl T.z_list boot_list rfl) pa_nil))) (pe_one (pe_cmpR (op_eqD K rfl hr) (pe_call G_done (hr.mono (by decide)) rfl T.F8.mg T.F8.fn.kp T.F8.bd .nil pass0 (pa_cons (pv 0) (pa_cons (pv 1) (pa_cons (pv 3) pa_nil)))) (pv 2) (nomark _)))))))), ?_⟩
  obtain ⟨y, d, e, ws, vs', os, ps, rfl, hy, hy8, hg1, hg2, hd, he, q⟩ := h
  have hs : (100000 : Nat) < sizeLine := by decide
  obtain ⟨⟨wt1, ot1, a1, a2, a3⟩, aO⟩ := id hd
  obtain ⟨⟨wt2, ot2, b1, b2, b3⟩, bO⟩ := id he
  have lt1 : ∀ w ∈ ws, (∀ c ∈ w, Lt c) /\ w.length <= 12 := fun w hw => ⟨fun c hc => hy.lt c ((hg1.all12 w hw).1 c hc), (hg1.all12 w hw).2⟩
  have lt2 : ∀ w ∈ vs', (∀ c ∈ w, Lt c) /\ w.length <= 12 := fun w hw => ⟨fun c hc => hy.lt c ((hg2.all12 w hw).1 c hc), (hg2.all12 w hw).2⟩
  have hwf := hg1.few
  have hvf := hg2.few
  have lyo : ∀ {us : List (List Nat)}, (∀ w ∈ us, (∀ c ∈ w, Lt c) /\ w.length <= 12) -> PyData.canLayAll0 (tds (us.map ringM)) = true := fun h => lay_txs fun l hl' c hc => by
    obtain ⟨w, hw, rfl⟩ := List.mem_map.mp hl'
    exact (ringM_lt (h w hw).1 c hc).lt
  have dp : (PyData.list (tds (ws.map ringM))).depth <= 60 := by show PyData.depthAll (tds (ws.map ringM)) + 1 <= 60; rw [depth_txs]; decide
  refine ⟨_, rfl, _, rfl, _, rfl, y, d, e, ws, vs', os, ps, rfl, hy, hy8, hg1, hg2, hd, he, road_cases (Q := fun x H1 => gName 3 x _ H1 _) fun fv H1 s1 hfv => ?_⟩
  refine ⟨_, rfl, d, _, _, _, rfl, rfl, SqT.of (s1 _ _ a1), atI_nat (j := 0) rfl, wt1, rfl, ⟨_, SqT.of (s1 _ _ a2)⟩, ?_⟩
  refine comp_tup (K := K) (a := wt1) (xs := txs ws) (fun i acc H' => Same H1 H' /\ acc = txs ((ws.take i).map ringM)) (by rw [txs_len]; omega) (fun i acc H' h => SqT.of (h.1 _ _ (s1 _ _ a2))) ⟨Same.refl _, rfl⟩ ?_ ?_
  · rintro i x acc H6 Nx hi hx hal ⟨s6, rfl⟩ nx
    obtain ⟨w, hw, rfl⟩ := txs_get hx
    have hwm := lt1 w (List.mem_of_getElem? hw)
    refine ⟨trivial, yes_ite ?_⟩
    refine ⟨_, rfl, w, rfl, hwm.1, by omega, fun H7 s7 => nx _ _ (by simpa using hal) ⟨s6.trans s7, ?_⟩⟩
    rw [txs_snoc, <- take_snoc hw, List.map_append]
    rfl
  rintro acc H2 r1 hal ⟨s2, rfl⟩ nr1
  rw [txs_len, List.take_length]
  have s12 := s2.trans (Same.upd (o := HO.lst (txs (ws.map ringM))) nr1)
  have hr1 : upd H2 r1 (HO.lst (txs (ws.map ringM))) r1 = some (HO.lst (txs (ws.map ringM))) := upd_same
  generalize upd H2 r1 (HO.lst (txs (ws.map ringM))) = H3 at s12 hr1 ⊢
  have s03 := s1.trans s12
  refine ⟨_, rfl, e, _, _, _, rfl, rfl, SqT.of (s03 _ _ b1), atI_nat (j := 0) rfl, wt2, rfl, ⟨_, SqT.of (s03 _ _ b2)⟩, ?_⟩
  refine comp_tup (K := K) (a := wt2) (xs := txs vs') (fun i acc H' => Same H3 H' /\ acc = txs ((vs'.take i).map ringM)) (by rw [txs_len]; omega) (fun i acc H' h => SqT.of (h.1 _ _ (s03 _ _ b2))) ⟨Same.refl _, rfl⟩ ?_ ?_
  · rintro i x acc H6 Nx hi hx hal ⟨s6, rfl⟩ nx
    obtain ⟨w, hw, rfl⟩ := txs_get hx
    have hwm := lt2 w (List.mem_of_getElem? hw)
    refine ⟨trivial, yes_ite ?_⟩
    refine ⟨_, rfl, w, rfl, hwm.1, by omega, fun H7 s7 => nx _ _ (by simpa using hal) ⟨s6.trans s7, ?_⟩⟩
    rw [txs_snoc, <- take_snoc hw, List.map_append]
    rfl
  rintro acc H4 r2 hal ⟨s4, rfl⟩ nr2
  rw [txs_len, List.take_length]
  have s34 := s4.trans (Same.upd (o := HO.lst (txs (vs'.map ringM))) nr2)
  have hr2 : upd H4 r2 (HO.lst (txs (vs'.map ringM))) r2 = some (HO.lst (txs (vs'.map ringM))) := upd_same
  generalize upd H4 r2 (HO.lst (txs (vs'.map ringM))) = H5 at s34 hr2 ⊢
  have s15 := s12.trans s34
  have s05 := s1.trans s15
  refine ⟨.list (tds (ws.map ringM)), .list (tds (vs'.map ringM)), .lst (SqL.of (s34 _ _ hr1)) (rdds_txs _), .lst (SqL.of hr2) (rdds_txs _), ⟨lyo lt1, lyo lt2⟩, dp, _, rfl, ?_⟩
  have ev : PyData.eqv (.list (tds (ws.map ringM))) (.list (tds (vs'.map ringM))) = decide (ws.map ringM = vs'.map ringM) := eqv_tds _ _
  rw [ev]
  rcases hfv with ⟨hne, rfl⟩ | ⟨heq, t, ds, rfl, ht, hde, hP, hR, hl⟩
  · refine iteY (by rw [decide_eq_false hne]; rfl) ?_
    exact ⟨_, rfl, rfl, q _ s05⟩
  refine iteN (by rw [decide_eq_true heq]; rfl) ?_
  refine ⟨_, rfl, t, _, rfl, s15 _ _ ht, _, rfl, iteY rfl ?_⟩
  refine ⟨_, rfl, _, rfl, _, rfl, y, d, ws, os, t, ds, rfl, hy, hy8, hg1, hd.same s05, s15 _ _ ht, fun x hx => (hde x hx).ts (TSame.of s15), hl, hP, fun m ms H6 hm hms hmg s6 => ?_⟩
  rw [hR] at hm hms
  replace hms : ms.map prs = ps.map prs := hms
  replace hm : DrAt H6 m vs' ms := hm
  have sm8 := sm_dr2 hy hy8 he hg2
  have rm : RdD K H6 (.ref m) (drD vs' (ps.map prs)) := by rw [<- hms]; exact rd_dr hm
  refine ⟨_, rfl, _, _, rm, rd_dr (he.same (s05.trans s6)), ⟨sm8.ly, sm8.ly⟩, Nat.le_trans sm8.dp (by decide), ?_⟩
  rw [eqv_refl _ (dict_dr _ _)]
  exact q _ (s05.trans s6)
theorem ok_Lbox : FnOk P w K mg base CX0 1 f21 d21 ["_law_script", "_law_k"] (sp_Lbox K) := by
  refine T.F21.fn.ok sc_Lbox (fun vs H Q E h => len_Lbox h) (fun cdv A outer s H vs Q E hr h => ?_)
  refine ⟨_, (pss_cons (ps_set (i := 2) sc_Lbox.nd rfl (Or.inl rfl) (pe_op op_add (pe_op op_mul pe_int (pv 1)) pe_int))
      (pss_cons (ps_if (pt_cmpR op_lt (pv 1) (pe_callB (call_len_seqK K rfl) rfl T.z_len PySem.boot_len (pa_cons (pv 0) pa_nil)) (nomark _)) (pss_one (ps_set (i := 2) sc_Lbox.nd rfl (Or.inl rfl) (pe_ix (ix_listK K rfl) (pv 0) (pv 1) (fun _ _ => rfl)))) (pss_one (ps_if (pt_cmpR op_gt (pe_callB (call_len_seqK K rfl) rfl T.z_len PySem.boot_len (pa_cons (pv 0) pa_nil)) pe_int (nomark _)) (pss_one (ps_set (i := 2) sc_Lbox.nd rfl (Or.inl rfl) (pe_op op_add (pv 2) (pe_op op_mul (pe_op op_mod (pe_ix (ix_listK K rfl) (pv 0) (pe_op op_mod (pv 1) (pe_callB (call_len_seqK K rfl) rfl T.z_len PySem.boot_len (pa_cons (pv 0) pa_nil))) (fun _ _ => rfl)) pe_int) pe_int)))) pss_nil)))
      (pss_cons (ps_set (i := 3) sc_Lbox.nd rfl (Or.inl rfl) (pe_op op_mod (pe_op op_pow (pe_op op_add (pe_op op_add (pe_op op_mod (pv 2) pe_int) (pe_op op_mul pe_int (pv 1))) pe_int) pe_int) pe_int))
      (pss_one (ps_ret (pe_lst (pa_cons (pe_ix (ix_listK K rfl) (pe_lst (pa_cons pe_int (pa_cons (pv 2) pa_nil))) (pe_callTy call_int1 rfl T.z_int boot_int (pa_cons (pe_cmpR op_ge (pv 2) (pe_op op_pow pe_int pe_int) (nomark _)) pa_nil)) (fun _ _ => rfl)) (pa_cons (pe_op op_add (pe_op op_mod (pv 3) pe_int) pe_int) pa_nil)))))))), ?_⟩
  obtain ⟨a, ns, k, rfl, hS, hk, q⟩ := h
  have hp : (0 : Int) < 2147483629 := by decide
  (repeat (first | refine ⟨_, rfl, ?_⟩ | refine ⟨_, _, rfl, rfl, ?_⟩ | refine ⟨rfl, ?_⟩ | refine And.intro (by first | decide | omega | assumption | exact Nat.le_of_ble_eq_true rfl | exact .inl ⟨by decide, by decide⟩ | exact .inr ⟨by decide, by decide⟩ | exact ⟨by decide, by decide⟩ | exact ⟨by omega, by omega⟩) ?_))
  refine ⟨a, _, rfl, .inl hS, ?_⟩
  (repeat (first | refine ⟨_, rfl, ?_⟩ | refine ⟨_, _, rfl, rfl, ?_⟩ | refine ⟨rfl, ?_⟩ | refine And.intro (by first | decide | omega | assumption | exact Nat.le_of_ble_eq_true rfl | exact .inl ⟨by decide, by decide⟩ | exact .inr ⟨by decide, by decide⟩ | exact ⟨by decide, by decide⟩ | exact ⟨by omega, by omega⟩) ?_))
  refine ite2 (fun e => ?_) (fun e => ?_)
  · have e' : (k : Int) < ((ns.map V.int).length : Nat) := of_decide_eq_true e
    rw [List.length_map] at e'
    obtain ⟨z, hz⟩ := ints_at (ns := ns) (i := k) (by omega)
    (repeat (first | refine ⟨_, rfl, ?_⟩ | refine ⟨_, _, rfl, rfl, ?_⟩ | refine ⟨rfl, ?_⟩ | refine And.intro (by first | decide | omega | assumption | exact Nat.le_of_ble_eq_true rfl | exact .inl ⟨by decide, by decide⟩ | exact .inr ⟨by decide, by decide⟩ | exact ⟨by decide, by decide⟩ | exact ⟨by omega, by omega⟩) ?_))
    refine ⟨a, _, k, _, rfl, rfl, hS, atI_nat hz, ?_⟩
    (repeat (first | refine ⟨_, rfl, ?_⟩ | refine ⟨_, _, rfl, rfl, ?_⟩ | refine ⟨rfl, ?_⟩ | refine And.intro (by first | decide | omega | assumption | exact Nat.le_of_ble_eq_true rfl | exact .inl ⟨by decide, by decide⟩ | exact .inr ⟨by decide, by decide⟩ | exact ⟨by decide, by decide⟩ | exact ⟨by omega, by omega⟩) ?_))
    refine fun p1 n1 => ?_
    (repeat (first | refine ⟨_, rfl, ?_⟩ | refine ⟨_, _, rfl, rfl, ?_⟩ | refine ⟨rfl, ?_⟩ | refine And.intro (by first | decide | omega | assumption | exact Nat.le_of_ble_eq_true rfl | exact .inl ⟨by decide, by decide⟩ | exact .inr ⟨by decide, by decide⟩ | exact ⟨by decide, by decide⟩ | exact ⟨by omega, by omega⟩) ?_))
    refine .inr ⟨_, rfl, ?_⟩
    obtain ⟨y, hy⟩ := box_at _ z
    refine ⟨p1, _, _, _, rfl, rfl, SqL.of upd_same, hy, ?_⟩
    (repeat (first | refine ⟨_, rfl, ?_⟩ | refine ⟨_, _, rfl, rfl, ?_⟩ | refine ⟨rfl, ?_⟩ | refine And.intro (by first | decide | omega | assumption | exact Nat.le_of_ble_eq_true rfl | exact .inl ⟨by decide, by decide⟩ | exact .inr ⟨by decide, by decide⟩ | exact ⟨by decide, by decide⟩ | exact ⟨by omega, by omega⟩) ?_))
    exact fun p2 n2 => q p2 _ (Same.free (Same.upd n1) n2) ⟨_, _, upd_same⟩ ((Same.upd n1).trans (Same.upd n2))
  · (repeat (first | refine ⟨_, rfl, ?_⟩ | refine ⟨_, _, rfl, rfl, ?_⟩ | refine ⟨rfl, ?_⟩ | refine And.intro (by first | decide | omega | assumption | exact Nat.le_of_ble_eq_true rfl | exact .inl ⟨by decide, by decide⟩ | exact .inr ⟨by decide, by decide⟩ | exact ⟨by decide, by decide⟩ | exact ⟨by omega, by omega⟩) ?_))
    refine ⟨a, _, rfl, .inl hS, ?_⟩
    (repeat (first | refine ⟨_, rfl, ?_⟩ | refine ⟨_, _, rfl, rfl, ?_⟩ | refine ⟨rfl, ?_⟩ | refine And.intro (by first | decide | omega | assumption | exact Nat.le_of_ble_eq_true rfl | exact .inl ⟨by decide, by decide⟩ | exact .inr ⟨by decide, by decide⟩ | exact ⟨by decide, by decide⟩ | exact ⟨by omega, by omega⟩) ?_))
    refine ite2 (fun e2 => ?_) (fun e2 => ?_)
    · have e' : (0 : Int) < ((ns.map V.int).length : Nat) := of_decide_eq_true e2
      have hl : (0 : Int) < (ns.length : Int) := by rw [List.length_map] at e'; exact e'
      have m1 : 0 <= (k : Int) % (ns.length : Int) := Int.emod_nonneg _ (by omega)
      have m2 : (k : Int) % (ns.length : Int) < (ns.length : Int) := Int.emod_lt_of_pos _ hl
      obtain ⟨z, hz⟩ := ints_at (ns := ns) (i := ((k : Int) % (ns.length : Int)).toNat) (by omega)
      have hz' : atI (ns.map V.int) ((k : Int) % ((ns.map V.int).length : Nat)) = some (V.int z) := by
        have := atI_nat hz
        rw [Int.toNat_of_nonneg m1] at this
        rw [List.length_map]
        exact this
      (repeat (first | refine ⟨_, rfl, ?_⟩ | refine ⟨_, _, rfl, rfl, ?_⟩ | refine ⟨rfl, ?_⟩ | refine And.intro (by first | decide | omega | assumption | exact Nat.le_of_ble_eq_true rfl | exact .inl ⟨by decide, by decide⟩ | exact .inr ⟨by decide, by decide⟩ | exact ⟨by decide, by decide⟩ | exact ⟨by omega, by omega⟩) ?_))
      refine ⟨a, _, rfl, .inl hS, ?_⟩
      (repeat (first | refine ⟨_, rfl, ?_⟩ | refine ⟨_, _, rfl, rfl, ?_⟩ | refine ⟨rfl, ?_⟩ | refine And.intro (by first | decide | omega | assumption | exact Nat.le_of_ble_eq_true rfl | exact .inl ⟨by decide, by decide⟩ | exact .inr ⟨by decide, by decide⟩ | exact ⟨by decide, by decide⟩ | exact ⟨by omega, by omega⟩) ?_))
      refine ⟨a, _, _, _, rfl, rfl, hS, hz', ?_⟩
      (repeat (first | refine ⟨_, rfl, ?_⟩ | refine ⟨_, _, rfl, rfl, ?_⟩ | refine ⟨rfl, ?_⟩ | refine And.intro (by first | decide | omega | assumption | exact Nat.le_of_ble_eq_true rfl | exact .inl ⟨by decide, by decide⟩ | exact .inr ⟨by decide, by decide⟩ | exact ⟨by decide, by decide⟩ | exact ⟨by omega, by omega⟩) ?_))
      refine fun p1 n1 => ?_
      (repeat (first | refine ⟨_, rfl, ?_⟩ | refine ⟨_, _, rfl, rfl, ?_⟩ | refine ⟨rfl, ?_⟩ | refine And.intro (by first | decide | omega | assumption | exact Nat.le_of_ble_eq_true rfl | exact .inl ⟨by decide, by decide⟩ | exact .inr ⟨by decide, by decide⟩ | exact ⟨by decide, by decide⟩ | exact ⟨by omega, by omega⟩) ?_))
      refine .inr ⟨_, rfl, ?_⟩
      obtain ⟨y, hy⟩ := box_at _ _
      refine ⟨p1, _, _, _, rfl, rfl, SqL.of upd_same, hy, ?_⟩
      (repeat (first | refine ⟨_, rfl, ?_⟩ | refine ⟨_, _, rfl, rfl, ?_⟩ | refine ⟨rfl, ?_⟩ | refine And.intro (by first | decide | omega | assumption | exact Nat.le_of_ble_eq_true rfl | exact .inl ⟨by decide, by decide⟩ | exact .inr ⟨by decide, by decide⟩ | exact ⟨by decide, by decide⟩ | exact ⟨by omega, by omega⟩) ?_))
      exact fun p2 n2 => q p2 _ (Same.free (Same.upd n1) n2) ⟨_, _, upd_same⟩ ((Same.upd n1).trans (Same.upd n2))
    · (repeat (first | refine ⟨_, rfl, ?_⟩ | refine ⟨_, _, rfl, rfl, ?_⟩ | refine ⟨rfl, ?_⟩ | refine And.intro (by first | decide | omega | assumption | exact Nat.le_of_ble_eq_true rfl | exact .inl ⟨by decide, by decide⟩ | exact .inr ⟨by decide, by decide⟩ | exact ⟨by decide, by decide⟩ | exact ⟨by omega, by omega⟩) ?_))
      refine fun p1 n1 => ?_
      (repeat (first | refine ⟨_, rfl, ?_⟩ | refine ⟨_, _, rfl, rfl, ?_⟩ | refine ⟨rfl, ?_⟩ | refine And.intro (by first | decide | omega | assumption | exact Nat.le_of_ble_eq_true rfl | exact .inl ⟨by decide, by decide⟩ | exact .inr ⟨by decide, by decide⟩ | exact ⟨by decide, by decide⟩ | exact ⟨by omega, by omega⟩) ?_))
      refine .inr ⟨_, rfl, ?_⟩
      obtain ⟨y, hy⟩ := box_at _ _
      refine ⟨p1, _, _, _, rfl, rfl, SqL.of upd_same, hy, ?_⟩
      (repeat (first | refine ⟨_, rfl, ?_⟩ | refine ⟨_, _, rfl, rfl, ?_⟩ | refine ⟨rfl, ?_⟩ | refine And.intro (by first | decide | omega | assumption | exact Nat.le_of_ble_eq_true rfl | exact .inl ⟨by decide, by decide⟩ | exact .inr ⟨by decide, by decide⟩ | exact ⟨by decide, by decide⟩ | exact ⟨by omega, by omega⟩) ?_))
      exact fun p2 n2 => q p2 _ (Same.free (Same.upd n1) n2) ⟨_, _, upd_same⟩ ((Same.upd n1).trans (Same.upd n2))
theorem ok_Lyard : FnOk P w K mg base CX0 2 f24 d24 ["_law_box_here", "_law_few", "_law_top"] (sp_Lyard K) := by
  have G_Ltake := ok_Ltake (P := P) (w := w) (base := base) T
  have G_Lother := ok_Lother (P := P) (w := w) (base := base) T
  refine T.F24.fn.ok sc_Lyard (fun vs H Q E h => len_Lyard h) (fun cdv A outer s H vs Q E hr h => ?_)
  refine ⟨_, (pss_cons (ps_set (i := 3) sc_Lyard.nd rfl (Or.inl rfl) (pe_callTy (call_listS rfl) rfl T.z_list boot_list (pa_cons (pe_S [97, 98, 99, 100, 101, 102, 103, 104, 105, 106, 107, 108, 109, 110, 111, 112, 113, 114, 115, 116, 117, 118, 119, 120, 121, 122] (by decide +kernel)) pa_nil)))
      (pss_cons (ps_set (i := 4) sc_Lyard.nd rfl (Or.inl rfl) (pe_lst pa_nil))
      (pss_cons (ps_for PassesOwn.never rfl (pi_range1 rfl T.z_range (pa_cons (pe_op op_add (pv 1) (pe_call G_Ltake (hr.mono (by decide)) rfl T.F22.mg T.F22.fn.kp T.F22.bd .nil pass0 (pa_cons (pv 0) (pa_cons (pe_op op_add (pe_op op_sub (pv 2) (pv 1)) pe_int) pa_nil)))) pa_nil)) (pg_name (i := 5) sc_Lyard.nd rfl (Or.inl rfl)) (pss_cons (ps_set (i := 6) sc_Lyard.nd rfl (Or.inl rfl) (pe_bmK K rfl PySem.F.plainAttrs_list PySem.F.slot_list_pop PySem.F.type_list_pop mt_popAt (pv 3) (pa_cons (pe_call G_Ltake (hr.mono (by decide)) rfl T.F22.mg T.F22.fn.kp T.F22.bd .nil pass0 (pa_cons (pv 0) (pa_cons (pe_callB (call_len_seqK K rfl) rfl T.z_len PySem.boot_len (pa_cons (pv 3) pa_nil)) pa_nil))) pa_nil)))
      (pss_one (ps_set (i := 4) sc_Lyard.nd rfl (Or.inl rfl) (pe_op op_cat (pv 4) (pe_lst (pa_cons (pv 6) (pa_cons (pe_call G_Lother (hr.mono (by decide)) rfl T.F23.mg T.F23.fn.kp T.F23.bd .nil pass0 (pa_cons (pv 6) pa_nil)) pa_nil))))))))
      (pss_cons (ps_set (i := 7) sc_Lyard.nd rfl (Or.inl rfl) (pe_S [] (by decide +kernel)))
      (pss_cons (ps_whileN PassesOwn.never (pt_cmpR op_gt (pe_callB (call_len_seqK K rfl) rfl T.z_len PySem.boot_len (pa_cons (pv 4) pa_nil)) pe_int (nomark _)) (pss_one (ps_set (i := 7) sc_Lyard.nd rfl (Or.inl rfl) (pe_op op_addS (pv 7) (pe_bmK K rfl PySem.F.plainAttrs_list PySem.F.slot_list_pop PySem.F.type_list_pop mt_popAt (pv 4) (pa_cons (pe_call G_Ltake (hr.mono (by decide)) rfl T.F22.mg T.F22.fn.kp T.F22.bd .nil pass0 (pa_cons (pv 0) (pa_cons (pe_callB (call_len_seqK K rfl) rfl T.z_len PySem.boot_len (pa_cons (pv 4) pa_nil)) pa_nil))) pa_nil))))))
      (pss_one (ps_ret (pv 7)))))))), ?_⟩
  obtain ⟨b, few, top, rfl, hb, h1, h2, h3, q⟩ := h
  have hs : (100000 : Nat) < sizeLine := by decide
  (repeat (first | refine ⟨_, rfl, ?_⟩ | refine ⟨_, _, rfl, rfl, ?_⟩ | refine ⟨rfl, ?_⟩ | refine And.intro (by first | decide | omega | assumption | exact Nat.le_of_ble_eq_true rfl | exact .inl ⟨by decide, by decide⟩ | exact .inr ⟨by decide, by decide⟩ | exact ⟨by decide, by decide⟩ | exact ⟨by omega, by omega⟩) ?_))
  intro p1 n1
  (repeat (first | refine ⟨_, rfl, ?_⟩ | refine ⟨_, _, rfl, rfl, ?_⟩ | refine ⟨rfl, ?_⟩ | refine And.intro (by first | decide | omega | assumption | exact Nat.le_of_ble_eq_true rfl | exact .inl ⟨by decide, by decide⟩ | exact .inr ⟨by decide, by decide⟩ | exact ⟨by decide, by decide⟩ | exact ⟨by omega, by omega⟩) ?_))
  intro p2 n2
  have s1 : Same H (upd (upd H p1 (.lst (sgs smalls))) p2 (.lst [])) := (Same.upd n1).trans (Same.upd n2)
  have bp1 : p1 ≠ b := hb.ne n1
  have np2 : H p2 = none := Same.free (Same.upd n1) n2
  have bp2 : p2 ≠ b := hb.ne np2
  have p12 : p1 ≠ p2 := fun z => by rw [<- z, upd_same] at n2; cases n2
  (repeat (first | refine ⟨_, rfl, ?_⟩ | refine ⟨_, _, rfl, rfl, ?_⟩ | refine ⟨rfl, ?_⟩ | refine And.intro (by first | decide | omega | assumption | exact Nat.le_of_ble_eq_true rfl | exact .inl ⟨by decide, by decide⟩ | exact .inr ⟨by decide, by decide⟩ | exact ⟨by decide, by decide⟩ | exact ⟨by omega, by omega⟩) ?_))
  refine ⟨b, _, rfl, hb.same s1, by omega, by omega, fun n H1 hn hb1 s2 => ?_⟩
  (repeat (first | refine ⟨_, rfl, ?_⟩ | refine ⟨_, _, rfl, rfl, ?_⟩ | refine ⟨rfl, ?_⟩ | refine And.intro (by first | decide | omega | assumption | exact Nat.le_of_ble_eq_true rfl | exact .inl ⟨by decide, by decide⟩ | exact .inr ⟨by decide, by decide⟩ | exact ⟨by decide, by decide⟩ | exact ⟨by omega, by omega⟩) ?_))
  refine for_range (fun i σ H' => ∃ (pe : Addr) (L E : List Nat) (kv lv : Option V), σ = [some (.ref b), some (.int few), some (.int top), some (.ref p1), some (.ref pe), kv, lv, none] /\ YdW i L E /\ H' p1 = some (.lst (sgs L)) /\ H' pe = some (.lst (sgs E)) /\ p1 ≠ pe /\ H pe = none /\ BoxAt H' b /\ SameB b H H')
    ⟨p2, smalls, [], none, none, rfl, YdW.start, s2 _ _ (by rw [upd_ne p12, upd_same]; rfl) bp1, s2 _ _ upd_same bp2, p12, np2, hb1, (SameB.of s1).trans s2⟩ ?_ ?_
  · rintro i σ H2 hi ⟨pe, L, E, kv, lv, rfl, yw, hp1, hpe, n1e, npe, hb2, s3⟩
    have hi2 : i < 26 := by simp at hi; omega
    have hll := yw.ll
    have hel := yw.el
    refine ⟨_, rfl, .inl ⟨rfl, _, SqL.of hp1⟩, ?_⟩
    (repeat (first | refine ⟨_, rfl, ?_⟩ | refine ⟨_, _, rfl, rfl, ?_⟩ | refine ⟨rfl, ?_⟩ | refine And.intro (by first | decide | omega | assumption | exact Nat.le_of_ble_eq_true rfl | exact .inl ⟨by decide, by decide⟩ | exact .inr ⟨by decide, by decide⟩ | exact ⟨by decide, by decide⟩ | exact ⟨by omega, by omega⟩) ?_))
    refine ⟨p1, _, rfl, .inl (SqL.of hp1), b, _, rfl, hb2, by rw [sgs_len]; omega, by rw [sgs_len]; omega, fun r H3 hr3 hb3 s4 => ?_⟩
    rw [sgs_len] at hr3
    have hr4 : r < L.length := by omega
    have hp1' := s4 _ _ hp1 bp1
    have hpe' := s4 _ _ hpe (hb.ne npe)
    refine ⟨p1, _, _, r, _, rfl, rfl, hp1', by omega, by omega, by rw [sgs_len, seqIndex_of (by omega) (by omega), Int.toNat_natCast], sgs_at hr4, ?_⟩
    rw [sgs_erase]
    have hlt : Lt L[r] := .inl (yw.sm _ (List.getElem_mem hr4))
    have hpe2 : (upd H3 p1 (.lst (sgs (L.eraseIdx r)))) pe = some (.lst (sgs E)) := by rw [upd_ne (Ne.symm n1e)]; exact hpe'
    (repeat (first | refine ⟨_, rfl, ?_⟩ | refine ⟨_, _, rfl, rfl, ?_⟩ | refine ⟨rfl, ?_⟩ | refine And.intro (by first | decide | omega | assumption | exact Nat.le_of_ble_eq_true rfl | exact .inl ⟨by decide, by decide⟩ | exact .inr ⟨by decide, by decide⟩ | exact ⟨by decide, by decide⟩ | exact ⟨by omega, by omega⟩) ?_))
    intro p3 n3
    have e3 : pe ≠ p3 := ne_of_none hpe2 n3
    refine ⟨pe, p3, _, _, rfl, rfl, by rw [upd_ne e3]; exact hpe2, upd_same, by rw [sgs_len]; show E.length + 2 <= _; omega, fun p4 n4 => ?_⟩
    have n3' : H p3 = none := ((s3.trans s4).updN n1).none n3 (hb3.updN bp1 |>.ne n3)
    have bx3 := (hb3.updN (o := .lst (sgs (L.eraseIdx r))) bp1).updN (o := .lst [V.str (S [L[r]]), V.str (S [ctr L[r]])]) (hb.ne n3')
    have sx3 := ((s3.trans s4).updN (o := .lst (sgs (L.eraseIdx r))) n1).updN (o := .lst [V.str (S [L[r]]), V.str (S [ctr L[r]])]) n3'
    have n4' : H p4 = none := sx3.none n4 (bx3.ne n4)
    have h14 : p1 ≠ p4 := fun z => by rw [<- z] at n4; by_cases z3 : p1 = p3 <;> simp [upd, z3] at n4
    have h13 : p1 ≠ p3 := fun z => by rw [<- z, upd_same] at n3; cases n3
    refine ⟨p4, L.eraseIdx r, E ++ [L[r], ctr L[r]], _, _, rfl, yw.turn hi2 hr4, by rw [upd_ne h14, upd_ne h13, upd_same], ?_, h14, n4', bx3.updN (hb.ne n4'), sx3.updN n4'⟩
    rw [upd_same, <- sgs_app]
    rfl
  · rintro σ H2 ⟨pe, L, E, kv, lv, rfl, yw, hp1, hpe, n1e, npe, hb2, s3⟩
    have hel := yw.el
    have hbe := hb.ne npe
    (repeat (first | refine ⟨_, rfl, ?_⟩ | refine ⟨_, _, rfl, rfl, ?_⟩ | refine ⟨rfl, ?_⟩ | refine And.intro (by first | decide | omega | assumption | exact Nat.le_of_ble_eq_true rfl | exact .inl ⟨by decide, by decide⟩ | exact .inr ⟨by decide, by decide⟩ | exact ⟨by decide, by decide⟩ | exact ⟨by omega, by omega⟩) ?_))
    refine ⟨fun m σ H' => ∃ F E' : List Nat, σ = [some (.ref b), some (.int few), some (.int top), some (.ref p1), some (.ref pe), kv, lv, some (.str (S F))] /\ m = E'.length /\ (F ++ E').Perm E /\ H' pe = some (.lst (sgs E')) /\ BoxAt H' b /\ SameB b H H', ⟨_, [], E, rfl, rfl, List.Perm.refl _, hpe, hb2, s3⟩, ?_⟩
    rintro m σ H3 ⟨F, E', rfl, rfl, hpm, hpe3, hb3, s4⟩
    have hlen := hpm.length_eq
    rw [List.length_append] at hlen
    have hn2 : (few : Int) + n <= 9 := by omega
    have hE26 : E.length <= 100 := by rw [hel]; omega
    (repeat (first | refine ⟨_, rfl, ?_⟩ | refine ⟨_, _, rfl, rfl, ?_⟩ | refine ⟨rfl, ?_⟩ | refine And.intro (by first | decide | omega | assumption | exact Nat.le_of_ble_eq_true rfl | exact .inl ⟨by decide, by decide⟩ | exact .inr ⟨by decide, by decide⟩ | exact ⟨by decide, by decide⟩ | exact ⟨by omega, by omega⟩) ?_))
    refine ⟨pe, _, rfl, .inl (SqL.of hpe3), _, _, rfl, rfl, _, rfl, ite2 (fun e => ?_) (fun e => ?_)⟩
    · have e' : (0 : Int) < ((sgs E').length : Nat) := of_decide_eq_true e
      rw [sgs_len] at e'
      refine ⟨_, rfl, _, rfl, .inl ⟨rfl, _, SqL.of hpe3⟩, ?_⟩
      (repeat (first | refine ⟨_, rfl, ?_⟩ | refine ⟨_, _, rfl, rfl, ?_⟩ | refine ⟨rfl, ?_⟩ | refine And.intro (by first | decide | omega | assumption | exact Nat.le_of_ble_eq_true rfl | exact .inl ⟨by decide, by decide⟩ | exact .inr ⟨by decide, by decide⟩ | exact ⟨by decide, by decide⟩ | exact ⟨by omega, by omega⟩) ?_))
      refine ⟨pe, _, rfl, .inl (SqL.of hpe3), b, _, rfl, hb3, by rw [sgs_len]; omega, by rw [sgs_len]; omega, fun r H4 hr4 hb4 s5 => ?_⟩
      rw [sgs_len] at hr4
      have hr5 : r < E'.length := by omega
      refine ⟨pe, _, _, r, _, rfl, rfl, s5 _ _ hpe3 hbe, by omega, by omega, by rw [sgs_len, seqIndex_of (by omega) (by omega), Int.toNat_natCast], sgs_at hr5, ?_⟩
      rw [sgs_erase]
      have hp := erase_perm (List.getElem?_eq_getElem hr5)
      have hpl := hp.length_eq
      rw [List.length_cons] at hpl
      refine ⟨F, _, rfl, rfl, by show F.length + 1 <= _; omega, (E'.eraseIdx r).length, by omega, F ++ [E'[r]], E'.eraseIdx r, rfl, rfl, ?_, upd_same, hb4.updN hbe, (s4.trans s5).updN npe⟩
      rw [List.append_assoc]
      exact (List.Perm.append_left F hp).trans hpm
    · have e' : E' = [] := by
        cases E' with
        | nil => rfl
        | cons c r => exact absurd (decide_eq_true (by rw [sgs_len]; show (0 : Int) < ((r.length + 1 : Nat) : Int); omega)) e
      subst e'
      rw [List.append_nil] at hpm
      have hl2 := hpm.length_eq
      refine ⟨_, rfl, q F H3 (yw.yd.perm hpm.symm) ?_ ?_ hb3 s4⟩
      · rw [hl2, hel]; omega
      · rw [hl2, hel]; omega
theorem ok_Lword : FnOk P w K mg base CX0 2 f25 d25 ["_law_box_here", "_law_yard_here", "_law_top"] (sp_Lword K) := by
  have G_Ltake := ok_Ltake (P := P) (w := w) (base := base) T
  refine T.F25.fn.ok sc_Lword (fun vs H Q E h => len_Lword h) (fun cdv A outer s H vs Q E hr h => ?_)
  refine ⟨_, (pss_one (ps_ret (pe_bmK K rfl PySem.F.plainAttrs_str PySem.F.slot_str_join PySem.F.type_str_join (mt_joinK K rfl) (pe_S [] (by decide +kernel)) (pa_cons (pe_compB ["_law_k", "_law_yard_here", "_law_box_here"] [none, some 1, some 0] (pi_range1 rfl T.z_range (pa_cons (pe_call G_Ltake (hr.mono (by decide)) rfl T.F22.mg T.F22.fn.kp T.F22.bd .nil pass0 (pa_cons (pv 0) (pa_cons (pe_op op_add (pv 2) pe_int) pa_nil))) pa_nil)) ⟨⟨rfl, rfl, by first | exact .inl rfl | exact .inr rfl⟩, ⟨⟨rfl, rfl, by first | exact .inl rfl | exact .inr rfl⟩, trivial⟩⟩ (fun _ _ _ _ => (pg_name (i := 0) (by decide +kernel : List.Nodup (["_law_k", "_law_yard_here", "_law_box_here"] : List Str)) rfl (Or.inl rfl))) (fun _ _ _ _ => pf_nil) (fun _ _ _ _ => (pe_ix ix_S (pv 1) (pe_call G_Ltake (hr.mono (by decide)) rfl T.F22.mg T.F22.fn.kp T.F22.bd .nil pass0 (pa_cons (pv 2) (pa_cons (pe_callB call_lenS rfl T.z_len PySem.boot_len (pa_cons (pv 1) pa_nil)) pa_nil))) (fun _ _ => rfl)))) pa_nil)))), ?_⟩
  obtain ⟨b, y, top, rfl, hb, hy, hyl, ht, q⟩ := h
  have hs : (100000 : Nat) < sizeLine := by decide
  (repeat (first | refine ⟨_, rfl, ?_⟩ | refine ⟨_, _, rfl, rfl, ?_⟩ | refine ⟨rfl, ?_⟩ | refine And.intro (by first | decide | omega | assumption | exact Nat.le_of_ble_eq_true rfl | exact .inl ⟨by decide, by decide⟩ | exact .inr ⟨by decide, by decide⟩ | exact ⟨by decide, by decide⟩ | exact ⟨by omega, by omega⟩) ?_))
  refine ⟨b, _, rfl, hb, by omega, by omega, fun n H1 hn hb1 s1 => ?_⟩
  (repeat (first | refine ⟨_, rfl, ?_⟩ | refine ⟨_, _, rfl, rfl, ?_⟩ | refine ⟨rfl, ?_⟩ | refine And.intro (by first | decide | omega | assumption | exact Nat.le_of_ble_eq_true rfl | exact .inl ⟨by decide, by decide⟩ | exact .inr ⟨by decide, by decide⟩ | exact ⟨by decide, by decide⟩ | exact ⟨by omega, by omega⟩) ?_))
  refine comp_rng (fun i acc H' => BoxAt H' b /\ SameB b H H' /\ ∃ l : List Nat, acc = sgs l /\ l.length = i /\ ∀ c ∈ l, c ∈ y) (by simp; omega) ⟨hb1, s1, [], rfl, rfl, by simp⟩ ?_ ?_
  · rintro i acc H2 Nx hi hl ⟨hb2, s2, l, rfl, hl2, hm⟩ nx
    have hpos : 0 < y.length := List.length_pos_iff.mpr hy
    refine ⟨⟨rfl, rfl, trivial⟩, yes_ite ?_⟩
    (repeat (first | refine ⟨_, rfl, ?_⟩ | refine ⟨_, _, rfl, rfl, ?_⟩ | refine ⟨rfl, ?_⟩ | refine And.intro (by first | decide | omega | assumption | exact Nat.le_of_ble_eq_true rfl | exact .inl ⟨by decide, by decide⟩ | exact .inr ⟨by decide, by decide⟩ | exact ⟨by decide, by decide⟩ | exact ⟨by omega, by omega⟩) ?_))
    refine ⟨b, _, rfl, hb2, by omega, by omega, fun r H3 hr3 hb3 s3 => ?_⟩
    have hr4 : r < y.length := by omega
    refine ⟨y, _, y[r], rfl, rfl, by omega, atI_nat (List.getElem?_eq_getElem hr4), ?_⟩
    refine nx _ _ (by simpa using hl) ⟨hb3, s2.trans s3, l ++ [y[r]], sgs_snoc _ _, by simp [hl2], fun c hc => ?_⟩
    rcases List.mem_append.mp hc with z | z
    · exact hm c z
    · rw [List.mem_singleton.mp z]; exact List.getElem_mem hr4
  · rintro acc H2 D hl ⟨hb2, s2, l, rfl, hl2, hm⟩ hD
    have hl3 : l.length <= top := by simp at hl2; omega
    refine ⟨D, l.map fun c => [c], rfl, rfl, SqL.of ?_, ?_, ?_⟩
    · rw [upd_same, <- sgs_lists]
    · rw [sum1]; omega
    · rw [flat1]
      exact q l _ hm hl3 (hb2.same (Same.upd hD)) (s2.trans (SameB.of (Same.upd hD)))
theorem ok_Lwords : FnOk P w K mg base CX0 3 f29 d29 ["_law_box_here", "_law_yard_here"] (sp_Lwords K) := by
  have G_Ltake := ok_Ltake (P := P) (w := w) (base := base) T
  have G_Lword := ok_Lword (P := P) (w := w) (base := base) T
  refine T.F29.fn.ok sc_Lwords (fun vs H Q E h => len_Lwords h) (fun cdv A outer s H vs Q E hr h => ?_)
  refine ⟨_, (pss_cons (ps_set (i := 2) sc_Lwords.nd rfl (Or.inl rfl) pe_int)
      (pss_cons (ps_set (i := 3) sc_Lwords.nd rfl (Or.inl rfl) (pe_lst pa_nil))
      (pss_cons (ps_for PassesOwn.never rfl (pi_range1 rfl T.z_range (pa_cons (pe_call G_Ltake (hr.mono (by decide)) rfl T.F22.mg T.F22.fn.kp T.F22.bd .nil pass0 (pa_cons (pv 0) (pa_cons pe_int pa_nil))) pa_nil)) (pg_name (i := 4) sc_Lwords.nd rfl (Or.inl rfl)) (pss_cons (ps_set (i := 5) sc_Lwords.nd rfl (Or.inl rfl) (pe_call G_Lword (hr.mono (by decide)) rfl T.F25.mg T.F25.fn.kp T.F25.bd .nil pass0 (pa_cons (pv 0) (pa_cons (pv 1) (pa_cons (pe_callB (call_min2 rfl) rfl T.z_min boot_min (pa_cons (pv 2) (pa_cons (pe_ix (ix_listK K rfl) (pe_lst (pa_cons pe_int (pa_cons pe_int (pa_cons pe_int pa_nil)))) (pe_call G_Ltake (hr.mono (by decide)) rfl T.F22.mg T.F22.fn.kp T.F22.bd .nil pass0 (pa_cons (pv 0) (pa_cons pe_int pa_nil))) (fun _ _ => rfl)) pa_nil))) pa_nil)))))
      (pss_cons (ps_set (i := 2) sc_Lwords.nd rfl (Or.inl rfl) (pe_op op_sub (pv 2) (pe_callB call_lenS rfl T.z_len PySem.boot_len (pa_cons (pv 5) pa_nil))))
      (pss_one (ps_expr (pe_bmK K rfl PySem.F.plainAttrs_list PySem.F.slot_list_append PySem.F.type_list_append mt_append (pv 3) (pa_cons (pv 5) pa_nil)))))))
      (pss_one (ps_ret (pe_callTy (call_tuple_ofK K rfl) rfl T.z_tuple boot_tuple (pa_cons (pv 3) pa_nil))))))), ?_⟩
  obtain ⟨b, y, rfl, hb, hyn, hz, q⟩ := h
  have hs : (100000 : Nat) < sizeLine := by decide
  (repeat (first | refine ⟨_, rfl, ?_⟩ | refine ⟨_, _, rfl, rfl, ?_⟩ | refine ⟨_, _, _, rfl, rfl, by first | assumption | omega, by assumption, ?_⟩ | refine ⟨rfl, ?_⟩ | refine And.intro (by first | decide | omega | assumption | exact Nat.le_of_ble_eq_true rfl | exact .inl ⟨by decide, by decide⟩ | exact .inr ⟨by decide, by decide⟩ | exact ⟨by decide, by decide⟩ | exact ⟨by omega, by omega⟩) ?_))
  intro p1 n1
  have bp1 : p1 ≠ b := hb.ne n1
  (repeat (first | refine ⟨_, rfl, ?_⟩ | refine ⟨_, _, rfl, rfl, ?_⟩ | refine ⟨_, _, _, rfl, rfl, by first | assumption | omega, by assumption, ?_⟩ | refine ⟨rfl, ?_⟩ | refine And.intro (by first | decide | omega | assumption | exact Nat.le_of_ble_eq_true rfl | exact .inl ⟨by decide, by decide⟩ | exact .inr ⟨by decide, by decide⟩ | exact ⟨by decide, by decide⟩ | exact ⟨by omega, by omega⟩) ?_))
  refine ⟨b, 5, rfl, hb.same (Same.upd n1), by decide, by decide, fun n H1 hn hb1 s1 => ?_⟩
  (repeat (first | refine ⟨_, rfl, ?_⟩ | refine ⟨_, _, rfl, rfl, ?_⟩ | refine ⟨_, _, _, rfl, rfl, by first | assumption | omega, by assumption, ?_⟩ | refine ⟨rfl, ?_⟩ | refine And.intro (by first | decide | omega | assumption | exact Nat.le_of_ble_eq_true rfl | exact .inl ⟨by decide, by decide⟩ | exact .inr ⟨by decide, by decide⟩ | exact ⟨by decide, by decide⟩ | exact ⟨by omega, by omega⟩) ?_))
  refine for_range (fun i σ H' => ∃ (ws : List (List Nat)) (lf : Nat) (kv wv : Option V), σ = [some (.ref b), some (.str (S y)), some (.int lf), some (.ref p1), kv, wv] /\ H' p1 = some (.lst (txs ws)) /\ ws.length = i /\ (∀ w ∈ ws, (∀ c ∈ w, c ∈ y) /\ w.length <= 12) /\ lf <= 24 /\ BoxAt H' b /\ SameB b H H')
    ⟨[], 24, none, none, rfl, s1 _ _ upd_same bp1, rfl, fun _ h => absurd h List.not_mem_nil, Nat.le_refl _, hb1, (SameB.of (Same.upd n1)).trans s1⟩ ?_ ?_
  · rintro i σ H2 hi ⟨ws, lf, kv, wv, rfl, hp1, hwl, hw, hlf, hb2, s2⟩
    have hi5 : i < 5 := by omega
    refine ⟨_, rfl, _, rfl, _, rfl, by decide, fun p2 n2 => ?_⟩
    have bp2 : p2 ≠ b := hb2.ne n2
    refine ⟨_, rfl, b, 3, rfl, hb2.same (Same.upd n2), by decide, by decide, fun r H3 hr3 hb3 s3 => ?_⟩
    obtain ⟨v, hv, hv12⟩ : ∃ v : Nat, atI [V.int 3, V.int 6, V.int 12] ((r : Nat) : Int) = some (V.int v) /\ v <= 12 := by
      have h3 : r = 0 \/ r = 1 \/ r = 2 := by omega
      rcases h3 with rfl | rfl | rfl
      · exact ⟨3, atI_nat (xs := [V.int 3, V.int 6, V.int 12]) (j := 0) rfl, by decide⟩
      · exact ⟨6, atI_nat (xs := [V.int 3, V.int 6, V.int 12]) (j := 1) rfl, by decide⟩
      · exact ⟨12, atI_nat (xs := [V.int 3, V.int 6, V.int 12]) (j := 2) rfl, by decide⟩
    refine ⟨p2, _, _, _, rfl, rfl, SqL.of (s3 _ _ upd_same bp2), hv, _, _, rfl, ?_⟩
    obtain ⟨top, ht, ht1, ht2⟩ : ∃ top : Nat, (if (v : Int) < (lf : Int) then (v : Int) else (lf : Int)) = (top : Int) /\ top <= lf /\ top <= 12 := by
      split
      · exact ⟨v, rfl, by omega, hv12⟩
      · exact ⟨lf, rfl, Nat.le_refl _, by omega⟩
    rw [ht]
    refine ⟨b, y, top, rfl, hb3, hyn, by omega, by omega, fun w H4 hwm hwz hb4 s4 => ?_⟩
    have s24 : SameB b H2 H4 := ((SameB.of (Same.upd n2)).trans s3).trans s4
    have hp4 := s24 _ _ hp1 bp1
    refine ⟨_, rfl, _, rfl, w, rfl, by omega, _, _, rfl, rfl, ?_⟩
    refine ⟨_, rfl, .inl ⟨rfl, _, SqL.of hp4⟩, _, rfl, p1, _, _, rfl, rfl, hp4, by rw [txs_len]; omega, ?_⟩
    rw [txs_snoc]
    have elf : ((lf : Int) - (w.length : Int)) = ((lf - w.length : Nat) : Int) := by omega
    refine ⟨ws ++ [w], lf - w.length, _, _, by rw [<- elf]; rfl, upd_same, by simp [hwl], fun u hu => ?_, by omega, hb4.updN bp1, (s2.trans s24).updN n1⟩
    rcases List.mem_append.mp hu with z | z
    · exact hw u z
    · rw [List.mem_singleton.mp z]; exact ⟨hwm, by omega⟩
  · rintro σ H2 ⟨ws, lf, kv, wv, rfl, hp1, hwl, hw, hlf, hb2, s2⟩
    refine ⟨_, rfl, p1, _, rfl, .inl ⟨SqL.of hp1, fun t nt => ?_⟩⟩
    have nt0 : H t = none := s2.none nt (hb2.ne nt)
    exact q t ws _ nt0 (hb.ne nt0) upd_same ⟨by omega, hw⟩ (hb2.updN (hb.ne nt0)) (s2.updN nt0)
theorem ok_Lbands : FnOk P w K mg base CX0 1 f27 d27 ["_law_yard_here"] (sp_Lbands K) := by
  refine T.F27.fn.ok sc_Lbands (fun vs H Q E h => len_Lbands h) (fun cdv A outer s H vs Q E hr h => ?_)
  refine ⟨_, (pss_one (ps_ret (pe_callB (call_sortedK K rfl) rfl T.z_sorted boot_sorted (pa_cons (pe_compB ["_law_letter"] [none] (pi_str (pv 0)) trivial (fun _ _ _ _ => (pg_name (i := 0) (by decide +kernel : List.Nodup (["_law_letter"] : List Str)) rfl (Or.inl rfl))) (fun _ _ _ _ => (pf_one (pt_cmpR op_inS (pv 0) (pe_S [97, 98, 99, 100, 101, 102, 103, 104, 105, 106, 107, 108, 109, 110, 111, 112, 113, 114, 115, 116, 117, 118, 119, 120, 121, 122] (by decide +kernel)) (by with_unfolding_all rfl)))) (fun _ _ _ _ => (pv 0))) pa_nil)))), ?_⟩
  obtain ⟨y, rfl, hz, q⟩ := h
  have hs : (1000 : Nat) < sizeLine := by decide
  refine ⟨_, rfl, y, rfl, ?_⟩
  refine comp_fix (xs := sgs y) (fun i acc H' => Same H H' /\ acc = sgs ((y.take i).filter fun c => decide (c ∈ smalls))) (by rw [sgs_len]; omega) ⟨Same.refl H, rfl⟩ ?_ ?_
  · rintro i x acc H1 Nx hi hx hal ⟨s1, rfl⟩ nx
    obtain ⟨c, hc, rfl⟩ := sgs_get hx
    have e := filter_take (p := fun c => decide (c ∈ smalls)) hc
    refine ⟨trivial, ?_⟩
    refine ⟨_, rfl, c, smalls, rfl, rfl, _, rfl, ?_⟩
    refine ite2 (fun z => ?_) (fun z => ?_)
    · rw [if_pos z] at e
      exact ⟨_, rfl, nx _ _ (by simpa using hal) ⟨s1, by rw [e, <- sgs_snoc]⟩⟩
    · rw [if_neg z, List.append_nil] at e
      exact nx _ _ (Nat.le_succ_of_le hal) ⟨s1, by rw [e]⟩
  · rintro acc H1 D hal ⟨s1, rfl⟩ hD
    rw [sgs_take, sgs_lists]
    have hfl : (y.filter fun c => decide (c ∈ smalls)).length <= y.length := List.length_filter_le _ _
    refine ⟨D, (y.filter fun c => decide (c ∈ smalls)).map fun c => [c], rfl, SqL.of upd_same, by rw [List.length_map]; omega, fun p ls hp hpm hpw => ?_⟩
    obtain ⟨l', rfl, pl⟩ := ones_of hpm
    refine q p l' _ (Same.free (Same.trans s1 (Same.upd hD)) hp) (by rw [upd_same, <- sgs_lists]) pl (ones_pw hpw) ((s1.trans (Same.upd hD)).trans (Same.upd hp))
theorem ok_Lorder : FnOk P w K mg base CX0 2 f26 d26 ["_law_box_here", "_law_things"] (sp_Lorder K) := by
  have G_Ltake := ok_Ltake (P := P) (w := w) (base := base) T
  refine T.F26.fn.ok sc_Lorder (fun vs H Q E h => len_Lorder h) (fun cdv A outer s H vs Q E hr h => ?_)
  refine ⟨_, (pss_cons (ps_set (i := 2) sc_Lorder.nd rfl (Or.inl rfl) (pe_callTy (call_listAny K rfl rfl) rfl T.z_list boot_list (pa_cons (pv 1) pa_nil)))
      (pss_cons (ps_set (i := 3) sc_Lorder.nd rfl (Or.inl rfl) (pe_lst pa_nil))
      (pss_cons (ps_whileN PassesOwn.never (pt_cmpR op_gt (pe_callB (call_len_seqK K rfl) rfl T.z_len PySem.boot_len (pa_cons (pv 2) pa_nil)) pe_int (nomark _)) (pss_one (ps_expr (pe_bmK K rfl PySem.F.plainAttrs_list PySem.F.slot_list_append PySem.F.type_list_append mt_append (pv 3) (pa_cons (pe_bmK K rfl PySem.F.plainAttrs_list PySem.F.slot_list_pop PySem.F.type_list_pop mt_popAt (pv 2) (pa_cons (pe_call G_Ltake (hr.mono (by decide)) rfl T.F22.mg T.F22.fn.kp T.F22.bd .nil pass0 (pa_cons (pv 0) (pa_cons (pe_callB (call_len_seqK K rfl) rfl T.z_len PySem.boot_len (pa_cons (pv 2) pa_nil)) pa_nil))) pa_nil)) pa_nil)))))
      (pss_one (ps_ret (pv 3)))))), ?_⟩
  obtain ⟨b, x, ys, rfl, hb, hx, hz, q⟩ := h
  have hs : (100000 : Nat) < sizeLine := by decide
  rcases hx with ⟨p, rfl, hp⟩ | ⟨l, rfl, rfl⟩
  · refine ⟨_, rfl, .inr ⟨p, _, rfl, hp, fun p1 n1 => ?_⟩⟩
    (repeat (first | refine ⟨_, rfl, ?_⟩ | refine ⟨_, _, rfl, rfl, ?_⟩ | refine ⟨_, _, _, rfl, rfl, by first | assumption | omega, by assumption, ?_⟩ | refine ⟨rfl, ?_⟩ | refine And.intro (by first | decide | omega | assumption | exact Nat.le_of_ble_eq_true rfl | exact .inl ⟨by decide, by decide⟩ | exact .inr ⟨by decide, by decide⟩ | exact ⟨by decide, by decide⟩ | exact ⟨by omega, by omega⟩) ?_))
    intro p2 n2
    have s1 : Same H (upd (upd H p1 (.lst ys)) p2 (.lst [])) := (Same.upd n1).trans (Same.upd n2)
    have bp1 : p1 ≠ b := hb.ne n1
    have np2 : H p2 = none := Same.free (Same.upd n1) n2
    have bp2 : p2 ≠ b := hb.ne np2
    have p12 : p1 ≠ p2 := fun z => by rw [<- z, upd_same] at n2; cases n2
    refine ⟨fun m σ H' => ∃ F E' : List V, σ = [some (.ref b), some (.ref p), some (.ref p1), some (.ref p2)] /\ m = E'.length /\ (F ++ E').Perm ys /\ H' p1 = some (.lst E') /\ H' p2 = some (.lst F) /\ BoxAt H' b /\ SameB b H H', ⟨_, [], ys, rfl, rfl, List.Perm.refl _, by rw [upd_ne p12, upd_same], upd_same, hb.same s1, SameB.of s1⟩, ?_⟩
    rintro m σ H3 ⟨F, E', rfl, rfl, hpm, hp1, hp2, hb3, s4⟩
    have hlen := hpm.length_eq
    rw [List.length_append] at hlen
    (repeat (first | refine ⟨_, rfl, ?_⟩ | refine ⟨_, _, rfl, rfl, ?_⟩ | refine ⟨_, _, _, rfl, rfl, by first | assumption | omega, by assumption, ?_⟩ | refine ⟨rfl, ?_⟩ | refine And.intro (by first | decide | omega | assumption | exact Nat.le_of_ble_eq_true rfl | exact .inl ⟨by decide, by decide⟩ | exact .inr ⟨by decide, by decide⟩ | exact ⟨by decide, by decide⟩ | exact ⟨by omega, by omega⟩) ?_))
    refine ⟨p1, _, rfl, .inl (SqL.of hp1), _, _, rfl, rfl, _, rfl, ite2 (fun e => ?_) (fun e => ?_)⟩
    · have e' : (0 : Int) < (E'.length : Nat) := of_decide_eq_true e
      refine ⟨_, rfl, .inl ⟨rfl, _, SqL.of hp2⟩, _, rfl, .inl ⟨rfl, _, SqL.of hp1⟩, ?_⟩
      (repeat (first | refine ⟨_, rfl, ?_⟩ | refine ⟨_, _, rfl, rfl, ?_⟩ | refine ⟨_, _, _, rfl, rfl, by first | assumption | omega, by assumption, ?_⟩ | refine ⟨rfl, ?_⟩ | refine And.intro (by first | decide | omega | assumption | exact Nat.le_of_ble_eq_true rfl | exact .inl ⟨by decide, by decide⟩ | exact .inr ⟨by decide, by decide⟩ | exact ⟨by decide, by decide⟩ | exact ⟨by omega, by omega⟩) ?_))
      refine ⟨p1, _, rfl, .inl (SqL.of hp1), b, _, rfl, hb3, by omega, by omega, fun r H4 hr4 hb4 s5 => ?_⟩
      have hr5 : r < E'.length := by omega
      refine ⟨p1, _, _, r, _, rfl, rfl, s5 _ _ hp1 bp1, by omega, by omega, by rw [seqIndex_of (by omega) (by omega), Int.toNat_natCast], List.getElem?_eq_getElem hr5, ?_⟩
      have hpe := erase_perm (List.getElem?_eq_getElem hr5)
      have hpl := hpe.length_eq
      rw [List.length_cons] at hpl
      refine ⟨p2, _, _, rfl, rfl, by rw [upd_ne (Ne.symm p12)]; exact s5 _ _ hp2 bp2, by omega, ?_⟩
      refine ⟨(E'.eraseIdx r).length, by omega, F ++ [E'[r]], E'.eraseIdx r, rfl, rfl, ?_, by rw [upd_ne p12, upd_same], upd_same, (hb4.updN bp1).updN bp2, ((s4.trans s5).updN n1).updN np2⟩
      rw [List.append_assoc]
      exact (List.Perm.append_left F hpe).trans hpm
    · have e' : E' = [] := by
        cases E' with
        | nil => rfl
        | cons c r => exact absurd (decide_eq_true (by show (0 : Int) < ((r.length + 1 : Nat) : Int); omega)) e
      subst e'
      rw [List.append_nil] at hpm
      exact ⟨_, rfl, q p2 F H3 np2 bp2 hp2 hpm hb3 s4⟩
  · rw [sgs_len] at hz
    refine ⟨_, rfl, .inl ⟨l, rfl, by omega, fun p1 n1 => ?_⟩⟩
    rw [<- sgs_len l] at hz
    generalize sgs l = ys at *
    (repeat (first | refine ⟨_, rfl, ?_⟩ | refine ⟨_, _, rfl, rfl, ?_⟩ | refine ⟨_, _, _, rfl, rfl, by first | assumption | omega, by assumption, ?_⟩ | refine ⟨rfl, ?_⟩ | refine And.intro (by first | decide | omega | assumption | exact Nat.le_of_ble_eq_true rfl | exact .inl ⟨by decide, by decide⟩ | exact .inr ⟨by decide, by decide⟩ | exact ⟨by decide, by decide⟩ | exact ⟨by omega, by omega⟩) ?_))
    intro p2 n2
    have s1 : Same H (upd (upd H p1 (.lst ys)) p2 (.lst [])) := (Same.upd n1).trans (Same.upd n2)
    have bp1 : p1 ≠ b := hb.ne n1
    have np2 : H p2 = none := Same.free (Same.upd n1) n2
    have bp2 : p2 ≠ b := hb.ne np2
    have p12 : p1 ≠ p2 := fun z => by rw [<- z, upd_same] at n2; cases n2
    refine ⟨fun m σ H' => ∃ F E' : List V, σ = [some (.ref b), some (.str (S l)), some (.ref p1), some (.ref p2)] /\ m = E'.length /\ (F ++ E').Perm ys /\ H' p1 = some (.lst E') /\ H' p2 = some (.lst F) /\ BoxAt H' b /\ SameB b H H', ⟨_, [], ys, rfl, rfl, List.Perm.refl _, by rw [upd_ne p12, upd_same], upd_same, hb.same s1, SameB.of s1⟩, ?_⟩
    rintro m σ H3 ⟨F, E', rfl, rfl, hpm, hp1, hp2, hb3, s4⟩
    have hlen := hpm.length_eq
    rw [List.length_append] at hlen
    (repeat (first | refine ⟨_, rfl, ?_⟩ | refine ⟨_, _, rfl, rfl, ?_⟩ | refine ⟨_, _, _, rfl, rfl, by first | assumption | omega, by assumption, ?_⟩ | refine ⟨rfl, ?_⟩ | refine And.intro (by first | decide | omega | assumption | exact Nat.le_of_ble_eq_true rfl | exact .inl ⟨by decide, by decide⟩ | exact .inr ⟨by decide, by decide⟩ | exact ⟨by decide, by decide⟩ | exact ⟨by omega, by omega⟩) ?_))
    refine ⟨p1, _, rfl, .inl (SqL.of hp1), _, _, rfl, rfl, _, rfl, ite2 (fun e => ?_) (fun e => ?_)⟩
    · have e' : (0 : Int) < (E'.length : Nat) := of_decide_eq_true e
      refine ⟨_, rfl, .inl ⟨rfl, _, SqL.of hp2⟩, _, rfl, .inl ⟨rfl, _, SqL.of hp1⟩, ?_⟩
      (repeat (first | refine ⟨_, rfl, ?_⟩ | refine ⟨_, _, rfl, rfl, ?_⟩ | refine ⟨_, _, _, rfl, rfl, by first | assumption | omega, by assumption, ?_⟩ | refine ⟨rfl, ?_⟩ | refine And.intro (by first | decide | omega | assumption | exact Nat.le_of_ble_eq_true rfl | exact .inl ⟨by decide, by decide⟩ | exact .inr ⟨by decide, by decide⟩ | exact ⟨by decide, by decide⟩ | exact ⟨by omega, by omega⟩) ?_))
      refine ⟨p1, _, rfl, .inl (SqL.of hp1), b, _, rfl, hb3, by omega, by omega, fun r H4 hr4 hb4 s5 => ?_⟩
      have hr5 : r < E'.length := by omega
      refine ⟨p1, _, _, r, _, rfl, rfl, s5 _ _ hp1 bp1, by omega, by omega, by rw [seqIndex_of (by omega) (by omega), Int.toNat_natCast], List.getElem?_eq_getElem hr5, ?_⟩
      have hpe := erase_perm (List.getElem?_eq_getElem hr5)
      have hpl := hpe.length_eq
      rw [List.length_cons] at hpl
      refine ⟨p2, _, _, rfl, rfl, by rw [upd_ne (Ne.symm p12)]; exact s5 _ _ hp2 bp2, by omega, ?_⟩
      refine ⟨(E'.eraseIdx r).length, by omega, F ++ [E'[r]], E'.eraseIdx r, rfl, rfl, ?_, by rw [upd_ne p12, upd_same], upd_same, (hb4.updN bp1).updN bp2, ((s4.trans s5).updN n1).updN np2⟩
      rw [List.append_assoc]
      exact (List.Perm.append_left F hpe).trans hpm
    · have e' : E' = [] := by
        cases E' with
        | nil => rfl
        | cons c r => exact absurd (decide_eq_true (by show (0 : Int) < ((r.length + 1 : Nat) : Int); omega)) e
      subst e'
      rw [List.append_nil] at hpm
      exact ⟨_, rfl, q p2 F H3 np2 bp2 hp2 hpm hb3 s4⟩
theorem ok_Ldrawing : FnOk P w K mg base CX0 3 f28 d28 ["_law_box_here", "_law_yard_here", "_law_words_here"] (sp_Ldrawing K) := by
  have G_Lbands := ok_Lbands (P := P) (w := w) (base := base) T
  have G_Lother := ok_Lother (P := P) (w := w) (base := base) T
  have G_Lorder := ok_Lorder (P := P) (w := w) (base := base) T
  refine T.F28.fn.ok sc_Ldrawing (fun vs H Q E h => len_Ldrawing h) (fun cdv A outer s H vs Q E hr h => ?_)
  refine ⟨_, (pss_cons (ps_set (i := 3) sc_Ldrawing.nd rfl (Or.inl rfl) (pe_lst pa_nil))
      (pss_cons (ps_for PassesOwn.never rfl (pi_listK K rfl (pe_call G_Lbands (hr.mono (by decide)) rfl T.F27.mg T.F27.fn.kp T.F27.bd .nil pass0 (pa_cons (pv 1) pa_nil))) (pg_name (i := 4) sc_Ldrawing.nd rfl (Or.inr rfl)) (pss_cons (ps_set (i := 5) sc_Ldrawing.nd rfl (Or.inl rfl) (pe_lst pa_nil))
      (pss_cons (ps_for PassesOwn.never rfl (pi_enumT K rfl rfl T.z_enumerate (pa_cons (pv 2) pa_nil)) (pg_tupK (n := 2) K rfl rfl (pgs_cons (pg_name (i := 6) sc_Ldrawing.nd rfl (Or.inr rfl)) (pgs_cons (pg_name (i := 7) sc_Ldrawing.nd rfl (Or.inl rfl)) pgs_nil))) (pss_one (ps_expr (pe_bmK K rfl PySem.F.plainAttrs_list PySem.F.slot_list_extend PySem.F.type_list_extend mt_extend (pv 5) (pa_cons (pe_compB ["_law_i", "_law_letter", "_law_c", "_law_band"] [none, none, some 6, some 4] (pi_enumS rfl T.z_enumerate (pa_cons (pv 7) pa_nil)) ⟨⟨rfl, rfl, by first | exact .inl rfl | exact .inr rfl⟩, ⟨⟨rfl, rfl, by first | exact .inl rfl | exact .inr rfl⟩, trivial⟩⟩ (fun _ _ _ _ => (pg_tupK (n := 2) K rfl rfl (pgs_cons (pg_name (i := 0) (by decide +kernel : List.Nodup (["_law_i", "_law_letter", "_law_c", "_law_band"] : List Str)) rfl (Or.inl rfl)) (pgs_cons (pg_name (i := 1) (by decide +kernel : List.Nodup (["_law_i", "_law_letter", "_law_c", "_law_band"] : List Str)) rfl (Or.inl rfl)) pgs_nil)))) (fun _ _ _ _ => (pf_one (pt_cmpR (op_inK K rfl) (pv 1) (pe_tup (pa_cons (pv 3) (pa_cons (pe_call G_Lother (hr.mono (by decide)) rfl T.F23.mg T.F23.fn.kp T.F23.bd .nil pass0 (pa_cons (pv 3) pa_nil)) pa_nil))) (by with_unfolding_all rfl)))) (fun _ _ _ _ => (pe_tup (pa_cons (pv 2) (pa_cons (pv 0) pa_nil))))) pa_nil)))))
      (pss_one (ps_expr (pe_bmK K rfl PySem.F.plainAttrs_list PySem.F.slot_list_append PySem.F.type_list_append mt_append (pv 3) (pa_cons (pe_callTy (call_tuple_ofK K rfl) rfl T.z_tuple boot_tuple (pa_cons (pe_call G_Lorder (hr.mono (by decide)) rfl T.F26.mg T.F26.fn.kp T.F26.bd .nil pass0 (pa_cons (pv 0) (pa_cons (pv 5) pa_nil))) pa_nil)) pa_nil)))))))
      (pss_one (ps_ret (pe_tup (pa_cons (pe_callTy (call_tuple_ofK K rfl) rfl T.z_tuple boot_tuple (pa_cons (pv 2) pa_nil)) (pa_cons (pe_callTy (call_tuple_ofK K rfl) rfl T.z_tuple boot_tuple (pa_cons (pv 3) pa_nil)) pa_nil))))))), ?_⟩
  obtain ⟨b, y, wt, ws, rfl, hb, hy, hz, hwb, hwt, hw, q⟩ := h
  have hs : (100000 : Nat) < sizeLine := by decide
  have hwf := hw.few
  (repeat (first | refine ⟨_, rfl, ?_⟩ | refine ⟨_, _, rfl, rfl, ?_⟩ | refine ⟨_, _, _, rfl, rfl, by first | assumption | omega, by assumption, ?_⟩ | refine ⟨rfl, ?_⟩ | refine And.intro (by first | decide | omega | assumption | exact Nat.le_of_ble_eq_true rfl | exact .inl ⟨by decide, by decide⟩ | exact .inr ⟨by decide, by decide⟩ | exact ⟨by decide, by decide⟩ | exact ⟨by omega, by omega⟩) ?_))
  intro p1 n1
  have bp1 : p1 ≠ b := hb.ne n1
  have h1w : p1 ≠ wt := Ne.symm (ne_of_none hwt n1)
  refine ⟨_, rfl, y, rfl, by omega, fun p2 l2 H1 n2 hp2 hl2 hw2 s1 => ?_⟩
  rw [smalls_low hy.lt] at hl2
  have el := bsOf_eq hl2 hw2
  subst el
  have n20 : H p2 = none := Same.free (Same.upd n1) n2
  have bp2 : p2 ≠ b := hb.ne n20
  have p12 : p1 ≠ p2 := fun z => by rw [<- z, upd_same] at n2; cases n2
  have s01 : Same H H1 := (Same.upd n1).trans s1
  have hp1 : H1 p1 = some (.lst []) := s1 _ _ upd_same
  have hbl := bsOf_len hy
  refine ⟨p2, rfl, ⟨_, SqL.of hp2⟩, ?_⟩
  refine for_list (K := K) (a := p2) (xs := sgs (bsOf y)) (fun i σ H' => ∃ (os : List Od) (bv sv cv wv : Option V), σ = [some (.ref b), some (.str (S y)), some (.ref wt), some (.ref p1), bv, sv, cv, wv] /\ H' p1 = some (.lst (odv os)) /\ H' p2 = some (.lst (sgs (bsOf y))) /\ os.length = i /\ (∀ o ∈ os, OdOk H' o) /\ (∀ (j : Nat) (o : Od) (c : Nat), os[j]? = some o -> (bsOf y)[j]? = some c -> (o.ps.map Pr.pair).Perm (strAll c ws ws.length)) /\ BoxAt H' b /\ SameB b H H')
    ⟨[], none, none, none, none, rfl, hp1, hp2, rfl, fun _ h => absurd h List.not_mem_nil, fun j o c h => by simp at h, hb.same s01, SameB.of s01⟩ (fun i σ H' _ ⟨_, _, _, _, _, _, _, h, _⟩ => SqL.of h) ?_ ?_
  · rintro i x σ H2 hx ⟨os, bv, sv, cv, wv, rfl, hp1, hp2, hol, hod, hos, hb2, s2⟩
    obtain ⟨band, hband, rfl⟩ := sgs_get hx
    have hi : i < (bsOf y).length := (List.getElem?_eq_some_iff.mp hband).1
    have hbl2 : Lt band := hy.lt band (List.mem_filter.mp ((bsOf_perm y).mem_iff.mp (List.mem_of_getElem? hband))).1
    (repeat (first | refine ⟨_, rfl, ?_⟩ | refine ⟨_, _, rfl, rfl, ?_⟩ | refine ⟨_, _, _, rfl, rfl, by first | assumption | omega, by assumption, ?_⟩ | refine ⟨rfl, ?_⟩ | refine And.intro (by first | decide | omega | assumption | exact Nat.le_of_ble_eq_true rfl | exact .inl ⟨by decide, by decide⟩ | exact .inr ⟨by decide, by decide⟩ | exact ⟨by decide, by decide⟩ | exact ⟨by omega, by omega⟩) ?_))
    intro p3 n3
    have hwt2 := s2 _ _ hwt hwb
    refine ⟨_, rfl, wt, rfl, ⟨_, SqT.of ((Same.upd n3) _ _ hwt2)⟩, ?_⟩
    refine for_enumT (K := K) (a := wt) (xs := txs ws) (fun j σ H' => ∃ (ps : List Pr) (cv wv : Option V), σ = [some (.ref b), some (.str (S y)), some (.ref wt), some (.ref p1), some (.str (S [band])), some (.ref p3), cv, wv] /\ H' p3 = some (.lst (prv ps)) /\ (∀ p ∈ ps, PrOk H' p) /\ ps.map Pr.pair = strAll band ws j /\ ps.length <= 12 * j /\ Same H2 H')
      ⟨[], cv, wv, rfl, upd_same, fun _ h => absurd h List.not_mem_nil, rfl, Nat.zero_le _, Same.upd n3⟩ (fun j σ H' _ ⟨_, _, _, _, _, _, _, _, h⟩ => SqT.of (h _ _ hwt2)) ?_ ?_
    · rintro j x σ H3 T hxj ⟨ps, cv3, wv3, rfl, hp3, hps, hpe, hpl, s3⟩ nT
      have hj : j < ws.length := by
        have := (List.getElem?_eq_some_iff.mp hxj).1
        rwa [txs_len] at this
      rw [txs_at hj] at hxj
      cases hxj
      have hjw : ws[j]? = some ws[j] := List.getElem?_eq_getElem hj
      obtain ⟨hwy, hwz⟩ := hw.all _ (List.getElem_mem hj)
      generalize ws[j] = w at hjw hwy hwz ⊢
      refine ⟨T, _, rfl, SqT.of upd_same, rfl, _, _, rfl, _, _, rfl, rfl, ?_⟩
      have s3T := Same.upd (o := .tup [.int j, .str (S w)]) nT
      have hp3T := s3T _ _ hp3
      refine ⟨_, rfl, .inl ⟨rfl, _, SqL.of hp3T⟩, _, rfl, w, rfl, ?_⟩
      refine comp_enum (l := w) (fun m acc H' => Same (upd H3 T (.tup [.int j, .str (S w)])) H' /\ ∃ vs : List Pr, acc = prv vs /\ (∀ p ∈ vs, PrOk H' p) /\ vs.map Pr.pair = strUp band j w m /\ vs.length <= m) (by omega) ⟨Same.refl _, [], rfl, fun _ h => absurd h List.not_mem_nil, rfl, Nat.le_refl _⟩ ?_ ?_
      · rintro m l acc H4 T2 Nx hm hal ⟨s4, vs, rfl, hvs, hve, hvl⟩ nT2 nx
        have hmw : m < w.length := (List.getElem?_eq_some_iff.mp hm).1
        have es := strUp_succ (band := band) (c := j) hm
        rw [show onB band l = (decide (l = band) || decide (l = ctr band)) from rfl] at es
        refine ⟨T2, _, rfl, SqT.of upd_same, rfl, _, _, rfl, _, _, rfl, rfl, ?_⟩
        refine ⟨⟨rfl, rfl, trivial⟩, ?_⟩
        have s4T := Same.upd (o := .tup [.int m, .str (S [l])]) nT2
        refine ⟨_, rfl, _, rfl, _, rfl, band, rfl, hbl2, by show 2 <= sizeLine; decide, fun t nt => ?_⟩
        refine ⟨t, _, rfl, .inr (SqT.of upd_same), rfl, rfl, _, rfl, ?_⟩
        have s4t := s4T.trans (Same.upd (o := .tup [.str (S [band]), .str (S [ctr band])]) nt)
        generalize upd (upd H4 T2 (.tup [.int m, .str (S [l])])) t (.tup [.str (S [band]), .str (S [ctr band])]) = H5 at s4t ⊢
        show if inV (.str (S [l])) [.str (S [band]), .str (S [ctr band])] = true then _ else _
        rw [inV_two]
        refine ite2 (fun z => ?_) (fun z => ?_)
        · rw [if_pos z] at es
          refine ⟨_, rfl, _, rfl, by show 2 <= sizeLine; decide, fun t2 nt2 => ?_⟩
          refine nx _ _ (by simpa using hal) ⟨(s4.trans s4t).trans (Same.upd nt2), vs ++ [⟨t2, j, m⟩], prv_snoc vs ⟨t2, j, m⟩, fun p hp => ?_, by rw [List.map_append, hve, es]; rfl, by rw [List.length_append]; show vs.length + 1 <= _; omega⟩
          rcases List.mem_append.mp hp with g | g
          · exact (hvs p g).same (s4t.trans (Same.upd nt2))
          · have e2 := List.mem_singleton.mp g
            subst e2
            exact ⟨upd_same, by show j < 1000; omega, by show m < 1000; omega⟩
        · rw [if_neg z, List.append_nil] at es
          exact nx _ _ (Nat.le_succ_of_le hal) ⟨s4.trans s4t, vs, rfl, fun p hp => (hvs p hp).same s4t, by rw [es]; exact hve, by omega⟩
      · rintro acc H4 D hal ⟨s4, vs, rfl, hvs, hve, hvl⟩ hD
        have hp4 := s4 _ _ hp3T
        refine ⟨p3, D, _, _, rfl, rfl, (Same.upd hD) _ _ hp4, upd_same, by rw [prv_len, prv_len]; omega, ?_⟩
        rw [prv_app]
        have s34 : Same H3 (upd H4 D (.lst (prv vs))) := (s3T.trans s4).trans (Same.upd hD)
        have hp4D := (Same.upd (o := .lst (prv vs)) hD) _ _ hp4
        have n3H : H2 p3 = none := n3
        refine ⟨ps ++ vs, _, _, rfl, upd_same, fun p hp => ?_, by rw [List.map_append, hpe, hve, strAll_succ hjw], by rw [List.length_append]; omega, fun a o ea => by rw [upd_ne (ne_of_none ea n3H)]; exact s34 _ _ (s3 a o ea)⟩
        rcases List.mem_append.mp hp with g | g
        · exact ((hps p g).same s34).ts (TSame.updL hp4D)
        · exact ((hvs p g).same (Same.upd hD)).ts (TSame.updL hp4D)
    · rintro σ H3 ⟨ps, cv3, wv3, rfl, hp3, hps, hpe, hpl, s3⟩
      rw [txs_len] at hpe hpl
      have hb3 := hb2.same s3
      have b3 : p3 ≠ b := hb2.ne n3
      have hp13 := s3 _ _ hp1
      refine ⟨_, rfl, .inl ⟨rfl, _, SqL.of hp13⟩, ?_⟩
      refine ⟨_, rfl, _, rfl, b, .ref p3, prv ps, rfl, hb3, .inl ⟨p3, rfl, .inl (SqL.of hp3)⟩, by rw [prv_len]; omega, fun qa ys H4 nq qb hq hperm hb4 s4 => ?_⟩
      obtain ⟨ps', e1, e2⟩ := perm_unmap (f := fun p : Pr => V.ref p.t) hperm ps rfl
      have e3 : ys = prv ps' := e1
      subst e3
      have ts34 := TSame.box hb3 s4
      refine ⟨qa, _, rfl, .inl ⟨SqL.of hq, fun t nt => ?_⟩⟩
      have s2t : SameB b H2 (upd H4 t (.tup (prv ps'))) := ((SameB.of s3).trans s4).after (Same.upd nt)
      have hp14 := s2t _ _ hp1 bp1
      have ts4t : TSame H4 (upd H4 t (.tup (prv ps'))) := TSame.updN nt
      refine ⟨p1, _, _, rfl, rfl, hp14, by rw [odv_len]; omega, ?_⟩
      have tsA := (ts34.trans ts4t).trans (TSame.updL (o := .lst (odv os ++ [.ref t])) hp14)
      have hsub : ∀ p ∈ ps', p ∈ ps := fun p hp => e2.mem_iff.mp hp
      have hlen := e2.length_eq
      refine ⟨os ++ [⟨t, ps'⟩], _, _, _, _, rfl, by rw [upd_same]; exact congrArg (fun x => some (HO.lst x)) (odv_snoc os ⟨t, ps'⟩), by rw [upd_ne (Ne.symm p12)]; exact s2t _ _ hp2 bp2, by simp [hol], fun o ho => ?_, fun j o c hj hc => ?_, ?_, ?_⟩
      · rcases List.mem_append.mp ho with g | g
        · exact ((hod o g).same s3).ts tsA
        · have eo := List.mem_singleton.mp g
          subst eo
          refine ⟨?_, fun p hp => (hps p (hsub p hp)).ts tsA, by show ps'.length <= 100; omega⟩
          exact (TSame.updL (o := .lst (odv os ++ [.ref t])) hp14) _ _ upd_same
      · by_cases hlt : j < os.length
        · rw [List.getElem?_append_left hlt] at hj
          exact hos j o c hj hc
        · have hj2 : j = os.length := by
            have := (List.getElem?_eq_some_iff.mp hj).1
            rw [List.length_append] at this
            have : j < os.length + 1 := this
            omega
          subst hj2
          rw [List.getElem?_append_right (Nat.le_refl _), Nat.sub_self] at hj
          have eo : (⟨t, ps'⟩ : Od) = o := by simpa using hj
          rw [hol, hband] at hc
          have ec : band = c := Option.some.inj hc
          subst eo
          subst ec
          exact (e2.map Pr.pair).trans (by rw [hpe])
      · exact ((hb4.same (Same.upd nt)).updN bp1)
      · exact (s2.trans s2t).updN n1
  · rintro σ H2 ⟨os, bv, sv, cv, wv, rfl, hp1, hp2, hol, hod, hos, hb2, s2⟩
    rw [sgs_len] at hol
    have hwt2 := s2 _ _ hwt hwb
    refine ⟨_, rfl, wt, _, rfl, .inr ⟨SqT.of hwt2, ?_⟩⟩
    refine ⟨_, rfl, p1, _, rfl, .inl ⟨SqL.of hp1, fun t nt => ?_⟩⟩
    refine ⟨by show 2 <= sizeLine; decide, fun dr ndr => ?_⟩
    have nt0 : H t = none := s2.none nt (hb2.ne nt)
    have sA : Same H2 (upd (upd H2 t (.tup (odv os))) dr (.tup [.ref wt, .ref t])) := (Same.upd nt).trans (Same.upd ndr)
    have htd : t ≠ dr := fun z => by rw [<- z, upd_same] at ndr; cases ndr
    refine q dr os _ ⟨⟨wt, t, upd_same, sA _ _ hwt2, by rw [upd_ne htd, upd_same]⟩, fun o ho => (hod o ho).same sA⟩ ⟨hol, hos⟩ (hb2.same sA) (s2.after sA)
theorem ok_law : FnOk P w K mg base CX0 9 f33 d33 ["_law_script"] (sp_law K) := by
  have G_Lbox := ok_Lbox (P := P) (w := w) (base := base) T
  have G_Lyard := ok_Lyard (P := P) (w := w) (base := base) T
  have G_Lwords := ok_Lwords (P := P) (w := w) (base := base) T
  have G_Ldrawing := ok_Ldrawing (P := P) (w := w) (base := base) T
  have G_Lotherwise := ok_Lotherwise (P := P) (w := w) (base := base) T
  have G_Lright := ok_Lright (P := P) (w := w) (base := base) T
  refine T.F33.fn.ok sc_law (fun vs H Q E h => len_law h) (fun cdv A outer s H vs Q E hr h => ?_)
  refine ⟨_, (pss_cons (ps_set (i := 1) sc_law.nd rfl (Or.inl rfl) (pe_call G_Lbox (hr.mono (by decide)) rfl T.F21.mg T.F21.fn.kp T.F21.bd .nil pass0 (pa_cons (pv 0) (pa_cons pe_int pa_nil))))
      (pss_cons (ps_set (i := 2) sc_law.nd rfl (Or.inl rfl) (pe_call G_Lyard (hr.mono (by decide)) rfl T.F24.mg T.F24.fn.kp T.F24.bd .nil pass0 (pa_cons (pv 1) (pa_cons pe_int (pa_cons pe_int pa_nil)))))
      (pss_cons (ps_set (i := 3) sc_law.nd rfl (Or.inl rfl) (pe_call G_Lwords (hr.mono (by decide)) rfl T.F29.mg T.F29.fn.kp T.F29.bd .nil pass0 (pa_cons (pv 1) (pa_cons (pv 2) pa_nil))))
      (pss_cons (ps_set (i := 4) sc_law.nd rfl (Or.inl rfl) (pe_call G_Ldrawing (hr.mono (by decide)) rfl T.F28.mg T.F28.fn.kp T.F28.bd .nil pass0 (pa_cons (pe_call G_Lbox (hr.mono (by decide)) rfl T.F21.mg T.F21.fn.kp T.F21.bd .nil pass0 (pa_cons (pv 0) (pa_cons pe_int pa_nil))) (pa_cons (pv 2) (pa_cons (pv 3) pa_nil)))))
      (pss_cons (ps_for PassesOwn.never rfl (pi_range2 rfl T.z_range (pa_cons pe_int (pa_cons (pe_callB (call_max2 rfl) rfl T.z_max boot_max (pa_cons pe_int (pa_cons (pe_callB (call_min2 rfl) rfl T.z_min boot_min (pa_cons pe_int (pa_cons (pe_callB (call_len_seqK K rfl) rfl T.z_len PySem.boot_len (pa_cons (pv 0) pa_nil)) pa_nil))) pa_nil))) pa_nil))) (pg_name (i := 5) sc_law.nd rfl (Or.inl rfl)) (pss_cons (ps_set (i := 1) sc_law.nd rfl (Or.inl rfl) (pe_call G_Lbox (hr.mono (by decide)) rfl T.F21.mg T.F21.fn.kp T.F21.bd .nil pass0 (pa_cons (pv 0) (pa_cons (pv 5) pa_nil))))
      (pss_cons (ps_set (i := 6) sc_law.nd rfl (Or.inl rfl) (pe_call G_Ldrawing (hr.mono (by decide)) rfl T.F28.mg T.F28.fn.kp T.F28.bd .nil pass0 (pa_cons (pv 1) (pa_cons (pv 2) (pa_cons (pe_call G_Lotherwise (hr.mono (by decide)) rfl T.F31.mg T.F31.fn.kp T.F31.bd .nil pass0 (pa_cons (pv 1) (pa_cons (pv 2) (pa_cons (pv 3) pa_nil)))) pa_nil)))))
      (pss_one (ps_if (PW.pt (pw_or (pt_not (pt_val (pe_call G_Lright (hr.mono (by decide)) rfl T.F32.mg T.F32.fn.kp T.F32.bd .nil pass0 (pa_cons (pv 2) (pa_cons (pv 4) (pa_cons (pv 6) pa_nil)))))) (pw_or1 (pt_not (pt_val (pe_call G_Lright (hr.mono (by decide)) rfl T.F32.mg T.F32.fn.kp T.F32.bd .nil pass0 (pa_cons (pv 2) (pa_cons (pv 6) (pa_cons (pv 4) pa_nil))))))))) (pss_one (ps_ret pe_bl)) pss_nil)))))
      (pss_one (ps_ret (pe_call G_Lright (hr.mono (by decide)) rfl T.F32.mg T.F32.fn.kp T.F32.bd .nil pass0 (pa_cons (pv 2) (pa_cons (pv 4) (pa_cons (pv 4) pa_nil))))))))))), ?_⟩
  obtain ⟨a, ns, rfl, hS, hl, q⟩ := h
  have hs : (100000 : Nat) < sizeLine := by decide
  refine ⟨_, rfl, a, ns, 0, rfl, hS, by decide, fun b H1 nb bx s1 => ?_⟩
  refine ⟨_, rfl, b, 1, 4, rfl, bx, by decide, by decide, by decide, fun y H2 hy hy1 hy2 bx2 s2 => ?_⟩
  have hyn : y ≠ [] := fun z => by rw [z] at hy1; simp at hy1
  refine ⟨_, rfl, _, rfl, b, y, rfl, bx2, hyn, by omega, fun wt ws H3 nwt wtb hwt hws bx3 s3 => ?_⟩
  have s03 : Same H H3 := SameB.same nb s1 (s2.trans s3)
  refine ⟨_, rfl, a, ns, 1, rfl, s03.seq hS, by decide, fun b2 H4 nb2 bx4 s4 => ?_⟩
  refine ⟨_, rfl, _, rfl, b2, y, wt, ws, rfl, bx4, hy, by omega, ne_of_none hwt nb2, s4 _ _ hwt, hws, fun dr os H5 hdr hos bx5 s5 => ?_⟩
  have s35 : Same H3 H5 := SameB.same nb2 s4 s5
  have s05 := s03.trans s35
  have hwt5 := s35 _ _ hwt
  have hg : Good y ws (os.map prs) := ⟨hws, hos.lok⟩
  refine ⟨_, rfl, a, _, rfl, .inl (s05.seq hS), ?_⟩
  refine ⟨_, _, rfl, _, _, rfl, ?_⟩
  have mm : ∀ L : Int, 0 <= L -> ∃ m : Nat, (if (if L < 6 then L else 6) > 4 then (if L < 6 then L else 6) else 4) = (m : Int) /\ m <= 40 := fun L h0 => by
    by_cases c1 : L < 6
    · rw [if_pos c1]
      by_cases c2 : L > 4
      · rw [if_pos c2]; exact ⟨L.toNat, by omega, by omega⟩
      · rw [if_neg c2]; exact ⟨4, rfl, by decide⟩
    · rw [if_neg c1, if_pos (by decide)]; exact ⟨6, rfl, by decide⟩
  obtain ⟨m, hm, hm2⟩ := mm ((ns.map V.int).length : Int) (by omega)
  rw [hm]
  refine ⟨2, (m : Int), rfl, ⟨by decide, by decide, by omega, by omega⟩, ?_⟩
  refine for_range (fun i σ H' => ∃ (bv : V) (kv dv : Option V), σ = [some (.ref a), some bv, some (.str (S y)), some (.ref wt), some (.ref dr), kv, dv] /\ Same H5 H')
    ⟨_, none, none, rfl, Same.refl _⟩ ?_ ?_
  · rintro i σ H8 hi ⟨bv, kv, dv, rfl, s8⟩
    have hk : ((2 : Int) + (i : Int)) = ((2 + i : Nat) : Int) := by omega
    have s08 := s05.trans s8
    refine ⟨_, rfl, _, rfl, a, ns, 2 + i, by rw [<- hk]; rfl, s08.seq hS, by omega, fun b3 H9 nb3 bx9 s9 => ?_⟩
    have s59 := s8.trans s9
    refine ⟨_, rfl, _, rfl, _, rfl, _, rfl, _, rfl, b3, y, wt, ws, rfl, bx9, hy, hyn, by omega, s59 _ _ hwt5, hws, fun t ws' HA ht hws' bxA sA => ?_⟩
    refine ⟨b3, y, t, ws', rfl, bxA, hy, by omega, (fun z => by obtain ⟨u, v, g⟩ := bxA; rw [z, g] at ht; cases ht), ht, hws', fun dr2 os2 HB hdr2 hos2 bxB sB => ?_⟩
    have s8B : Same H8 HB := SameB.same nb3 s9 (sA.trans sB)
    have s5B := s8.trans s8B
    have hg2 : Good y ws' (os2.map prs) := ⟨hws', hos2.lok⟩
    refine ⟨_, rfl, _, rfl, _, rfl, y, dr, dr2, ws, ws', os, os2, rfl, hy, by omega, hg, hg2, hdr.same s5B, hdr2, fun HC sC => ⟨_, rfl, iteN rfl ?_⟩⟩
    refine ⟨_, rfl, _, rfl, _, rfl, y, dr2, dr, ws', ws, os2, os, rfl, hy, by omega, hg2, hg, hdr2.same sC, hdr.same (s5B.trans sC), fun HD sD => ⟨_, rfl, iteN rfl ?_⟩⟩
    exact ⟨_, _, _, rfl, (s5B.trans sC).trans sD⟩
  · rintro σ H8 ⟨bv, kv, dv, rfl, s8⟩
    refine ⟨_, rfl, _, rfl, _, rfl, y, dr, dr, ws, ws, os, os, rfl, hy, by omega, hg, hg, hdr.same s8, hdr.same s8, fun H9 s9 => ?_⟩
    exact q _
end
theorem us_z {M : List Value -> Prop} (h : M []) : ∀ us : List Value, us.length = 0 -> M us
  | [], _ => h
theorem us_s {M : List Value -> Prop} {n : Nat} (h : ∀ (a : Value) (us : List Value), us.length = n -> M (a :: us)) : ∀ us : List Value, us.length = n + 1 -> M us
  | a :: us, e => h a us (Nat.succ.inj e)
theorem all_mk {l : PySem.W.OpenLaw} {w : World} {K : PySem.W.Frag} {h : Heap} {mg : Str -> Option Value} {fa f0 f1 f2 f3 f4 f5 f6 f7 f8 f9 f10 f11 f12 f13 f14 f15 f16 f17 f18 f19 f20 f21 f22 f23 f24 f25 f26 f27 f28 f29 f30 f31 f32 f33 : Addr} (X : K.In h) (G : h.Ns mainGlobals mg) (hfa : mg "law" = some (.ref fa))
    {od0 an0 od1 an1 od2 an2 od3 an3 od4 an4 od5 an5 od6 an6 od7 an7 od8 an8 od9 an9 od10 an10 od11 an11 od12 an12 od13 an13 od14 an14 od15 an15 od16 an16 od17 an17 od18 an18 od19 an19 od20 an20 od21 an21 od22 an22 od23 an23 od24 an24 od25 an25 od26 an26 od27 an27 od28 an28 od29 an29 od30 an30 od31 an31 od32 an32 od33 an33 : Option Addr} {sl0 sl1 sl2 sl3 sl4 sl5 sl6 sl7 sl8 sl9 sl10 sl11 sl12 sl13 sl14 sl15 sl16 sl17 sl18 sl19 sl20 sl21 sl22 sl23 sl24 sl25 sl26 sl27 sl28 sl29 sl30 sl31 sl32 sl33 : Array (Option Value)} {oc0 kV0 dc0 pm0 cd0 ct0 oc1 kV1 dc1 pm1 cd1 ct1 oc2 kV2 dc2 pm2 cd2 ct2 oc3 kV3 dc3 pm3 cd3 ct3 oc4 kV4 dc4 pm4 cd4 ct4 oc5 kV5 dc5 pm5 cd5 ct5 oc6 kV6 dc6 pm6 cd6 ct6 oc7 kV7 dc7 pm7 cd7 ct7 oc8 kV8 dc8 pm8 cd8 ct8 oc9 kV9 dc9 pm9 cd9 ct9 oc10 kV10 dc10 pm10 cd10 ct10 oc11 kV11 dc11 pm11 cd11 ct11 oc12 kV12 dc12 pm12 cd12 ct12 oc13 kV13 dc13 pm13 cd13 ct13 oc14 kV14 dc14 pm14 cd14 ct14 oc15 kV15 dc15 pm15 cd15 ct15 oc16 kV16 dc16 pm16 cd16 ct16 oc17 kV17 dc17 pm17 cd17 ct17 oc18 kV18 dc18 pm18 cd18 ct18 oc19 kV19 dc19 pm19 cd19 ct19 oc20 kV20 dc20 pm20 cd20 ct20 oc21 kV21 dc21 pm21 cd21 ct21 oc22 kV22 dc22 pm22 cd22 ct22 oc23 kV23 dc23 pm23 cd23 ct23 oc24 kV24 dc24 pm24 cd24 ct24 oc25 kV25 dc25 pm25 cd25 ct25 oc26 kV26 dc26 pm26 cd26 ct26 oc27 kV27 dc27 pm27 cd27 ct27 oc28 kV28 dc28 pm28 cd28 ct28 oc29 kV29 dc29 pm29 cd29 ct29 oc30 kV30 dc30 pm30 cd30 ct30 oc31 kV31 dc31 pm31 cd31 ct31 oc32 kV32 dc32 pm32 cd32 ct32 oc33 kV33 dc33 pm33 cd33 ct33 : Value}
    (a0 : PySem.W.nsIn K mainGlobals "contrary" = some (some (.ref f0)))
    (l0 : K.lookup f0 = some ⟨oc0, od0, .func (PySem.W.fnOf "contrary" "contrary" (defArgs s_contrary) (defBody s_contrary) (defScope s_contrary) .none kV0 dc0 pm0 an0 cd0 ct0), sl0⟩)
    (c0 : PySem.W.codeIn K cd0 "contrary" = true)
    (k0 : PySem.W.keepIn K (.ref f0) = true)
    (a1 : PySem.W.nsIn K mainGlobals "bands" = some (some (.ref f1)))
    (l1 : K.lookup f1 = some ⟨oc1, od1, .func (PySem.W.fnOf "bands" "bands" (defArgs s_bands) (defBody s_bands) (defScope s_bands) .none kV1 dc1 pm1 an1 cd1 ct1), sl1⟩)
    (c1 : PySem.W.codeIn K cd1 "bands" = true)
    (k1 : PySem.W.keepIn K (.ref f1) = true)
    (a2 : PySem.W.nsIn K mainGlobals "renumber" = some (some (.ref f2)))
    (l2 : K.lookup f2 = some ⟨oc2, od2, .func (PySem.W.fnOf "renumber" "renumber" (defArgs s_renumber) (defBody s_renumber) (defScope s_renumber) .none kV2 dc2 pm2 an2 cd2 ct2), sl2⟩)
    (c2 : PySem.W.codeIn K cd2 "renumber" = true)
    (k2 : PySem.W.keepIn K (.ref f2) = true)
    (a3 : PySem.W.nsIn K mainGlobals "do_swap" = some (some (.ref f3)))
    (l3 : K.lookup f3 = some ⟨oc3, od3, .func (PySem.W.fnOf "do_swap" "do_swap" (defArgs s_do_swap) (defBody s_do_swap) (defScope s_do_swap) .none kV3 dc3 pm3 an3 cd3 ct3), sl3⟩)
    (c3 : PySem.W.codeIn K cd3 "do_swap" = true)
    (k3 : PySem.W.keepIn K (.ref f3) = true)
    (a4 : PySem.W.nsIn K mainGlobals "do_out" = some (some (.ref f4)))
    (l4 : K.lookup f4 = some ⟨oc4, od4, .func (PySem.W.fnOf "do_out" "do_out" (defArgs s_do_out) (defBody s_do_out) (defScope s_do_out) .none kV4 dc4 pm4 an4 cd4 ct4), sl4⟩)
    (c4 : PySem.W.codeIn K cd4 "do_out" = true)
    (k4 : PySem.W.keepIn K (.ref f4) = true)
    (a5 : PySem.W.nsIn K mainGlobals "do_in" = some (some (.ref f5)))
    (l5 : K.lookup f5 = some ⟨oc5, od5, .func (PySem.W.fnOf "do_in" "do_in" (defArgs s_do_in) (defBody s_do_in) (defScope s_do_in) .none kV5 dc5 pm5 an5 cd5 ct5), sl5⟩)
    (c5 : PySem.W.codeIn K cd5 "do_in" = true)
    (k5 : PySem.W.keepIn K (.ref f5) = true)
    (a6 : PySem.W.nsIn K mainGlobals "do_turn" = some (some (.ref f6)))
    (l6 : K.lookup f6 = some ⟨oc6, od6, .func (PySem.W.fnOf "do_turn" "do_turn" (defArgs s_do_turn) (defBody s_do_turn) (defScope s_do_turn) .none kV6 dc6 pm6 an6 cd6 ct6), sl6⟩)
    (c6 : PySem.W.codeIn K cd6 "do_turn" = true)
    (k6 : PySem.W.keepIn K (.ref f6) = true)
    (a7 : PySem.W.nsIn K mainGlobals "do_deed" = some (some (.ref f7)))
    (l7 : K.lookup f7 = some ⟨oc7, od7, .func (PySem.W.fnOf "do_deed" "do_deed" (defArgs s_do_deed) (defBody s_do_deed) (defScope s_do_deed) .none kV7 dc7 pm7 an7 cd7 ct7), sl7⟩)
    (c7 : PySem.W.codeIn K cd7 "do_deed" = true)
    (k7 : PySem.W.keepIn K (.ref f7) = true)
    (a8 : PySem.W.nsIn K mainGlobals "done" = some (some (.ref f8)))
    (l8 : K.lookup f8 = some ⟨oc8, od8, .func (PySem.W.fnOf "done" "done" (defArgs s_done) (defBody s_done) (defScope s_done) .none kV8 dc8 pm8 an8 cd8 ct8), sl8⟩)
    (c8 : PySem.W.codeIn K cd8 "done" = true)
    (k8 : PySem.W.keepIn K (.ref f8) = true)
    (a9 : PySem.W.nsIn K mainGlobals "shortened" = some (some (.ref f9)))
    (l9 : K.lookup f9 = some ⟨oc9, od9, .func (PySem.W.fnOf "shortened" "shortened" (defArgs s_shortened) (defBody s_shortened) (defScope s_shortened) .none kV9 dc9 pm9 an9 cd9 ct9), sl9⟩)
    (c9 : PySem.W.codeIn K cd9 "shortened" = true)
    (k9 : PySem.W.keepIn K (.ref f9) = true)
    (a10 : PySem.W.nsIn K mainGlobals "shortest" = some (some (.ref f10)))
    (l10 : K.lookup f10 = some ⟨oc10, od10, .func (PySem.W.fnOf "shortest" "shortest" (defArgs s_shortest) (defBody s_shortest) (defScope s_shortest) .none kV10 dc10 pm10 an10 cd10 ct10), sl10⟩)
    (c10 : PySem.W.codeIn K cd10 "shortest" = true)
    (k10 : PySem.W.keepIn K (.ref f10) = true)
    (a11 : PySem.W.nsIn K mainGlobals "ring" = some (some (.ref f11)))
    (l11 : K.lookup f11 = some ⟨oc11, od11, .func (PySem.W.fnOf "ring" "ring" (defArgs s_ring) (defBody s_ring) (defScope s_ring) .none kV11 dc11 pm11 an11 cd11 ct11), sl11⟩)
    (c11 : PySem.W.codeIn K cd11 "ring" = true)
    (k11 : PySem.W.keepIn K (.ref f11) = true)
    (a12 : PySem.W.nsIn K mainGlobals "are_one" = some (some (.ref f12)))
    (l12 : K.lookup f12 = some ⟨oc12, od12, .func (PySem.W.fnOf "are_one" "are_one" (defArgs s_are_one) (defBody s_are_one) (defScope s_are_one) .none kV12 dc12 pm12 an12 cd12 ct12), sl12⟩)
    (c12 : PySem.W.codeIn K cd12 "are_one" = true)
    (k12 : PySem.W.keepIn K (.ref f12) = true)
    (a13 : PySem.W.nsIn K mainGlobals "pairs_out" = some (some (.ref f13)))
    (l13 : K.lookup f13 = some ⟨oc13, od13, .func (PySem.W.fnOf "pairs_out" "pairs_out" (defArgs s_pairs_out) (defBody s_pairs_out) (defScope s_pairs_out) .none kV13 dc13 pm13 an13 cd13 ct13), sl13⟩)
    (c13 : PySem.W.codeIn K cd13 "pairs_out" = true)
    (k13 : PySem.W.keepIn K (.ref f13) = true)
    (a14 : PySem.W.nsIn K mainGlobals "way_down" = some (some (.ref f14)))
    (l14 : K.lookup f14 = some ⟨oc14, od14, .func (PySem.W.fnOf "way_down" "way_down" (defArgs s_way_down) (defBody s_way_down) (defScope s_way_down) .none kV14 dc14 pm14 an14 cd14 ct14), sl14⟩)
    (c14 : PySem.W.codeIn K cd14 "way_down" = true)
    (k14 : PySem.W.keepIn K (.ref f14) = true)
    (a15 : PySem.W.nsIn K mainGlobals "way_up" = some (some (.ref f15)))
    (l15 : K.lookup f15 = some ⟨oc15, od15, .func (PySem.W.fnOf "way_up" "way_up" (defArgs s_way_up) (defBody s_way_up) (defScope s_way_up) .none kV15 dc15 pm15 an15 cd15 ct15), sl15⟩)
    (c15 : PySem.W.codeIn K cd15 "way_up" = true)
    (k15 : PySem.W.keepIn K (.ref f15) = true)
    (a16 : PySem.W.nsIn K mainGlobals "turns_between" = some (some (.ref f16)))
    (l16 : K.lookup f16 = some ⟨oc16, od16, .func (PySem.W.fnOf "turns_between" "turns_between" (defArgs s_turns_between) (defBody s_turns_between) (defScope s_turns_between) .none kV16 dc16 pm16 an16 cd16 ct16), sl16⟩)
    (c16 : PySem.W.codeIn K cd16 "turns_between" = true)
    (k16 : PySem.W.keepIn K (.ref f16) = true)
    (a17 : PySem.W.nsIn K mainGlobals "word_road" = some (some (.ref f17)))
    (l17 : K.lookup f17 = some ⟨oc17, od17, .func (PySem.W.fnOf "word_road" "word_road" (defArgs s_word_road) (defBody s_word_road) (defScope s_word_road) .none kV17 dc17 pm17 an17 cd17 ct17), sl17⟩)
    (c17 : PySem.W.codeIn K cd17 "word_road" = true)
    (k17 : PySem.W.keepIn K (.ref f17) = true)
    (a18 : PySem.W.nsIn K mainGlobals "order_road" = some (some (.ref f18)))
    (l18 : K.lookup f18 = some ⟨oc18, od18, .func (PySem.W.fnOf "order_road" "order_road" (defArgs s_order_road) (defBody s_order_road) (defScope s_order_road) .none kV18 dc18 pm18 an18 cd18 ct18), sl18⟩)
    (c18 : PySem.W.codeIn K cd18 "order_road" = true)
    (k18 : PySem.W.keepIn K (.ref f18) = true)
    (a19 : PySem.W.nsIn K mainGlobals "same_cords" = some (some (.ref f19)))
    (l19 : K.lookup f19 = some ⟨oc19, od19, .func (PySem.W.fnOf "same_cords" "same_cords" (defArgs s_same_cords) (defBody s_same_cords) (defScope s_same_cords) .none kV19 dc19 pm19 an19 cd19 ct19), sl19⟩)
    (c19 : PySem.W.codeIn K cd19 "same_cords" = true)
    (k19 : PySem.W.keepIn K (.ref f19) = true)
    (a20 : PySem.W.nsIn K mainGlobals "road" = some (some (.ref f20)))
    (l20 : K.lookup f20 = some ⟨oc20, od20, .func (PySem.W.fnOf "road" "road" (defArgs s_road) (defBody s_road) (defScope s_road) .none kV20 dc20 pm20 an20 cd20 ct20), sl20⟩)
    (c20 : PySem.W.codeIn K cd20 "road" = true)
    (k20 : PySem.W.keepIn K (.ref f20) = true)
    (a21 : PySem.W.nsIn K mainGlobals "_law_box" = some (some (.ref f21)))
    (l21 : K.lookup f21 = some ⟨oc21, od21, .func (PySem.W.fnOf "_law_box" "_law_box" (defArgs s_Lbox) (defBody s_Lbox) (defScope s_Lbox) .none kV21 dc21 pm21 an21 cd21 ct21), sl21⟩)
    (c21 : PySem.W.codeIn K cd21 "_law_box" = true)
    (k21 : PySem.W.keepIn K (.ref f21) = true)
    (a22 : PySem.W.nsIn K mainGlobals "_law_take" = some (some (.ref f22)))
    (l22 : K.lookup f22 = some ⟨oc22, od22, .func (PySem.W.fnOf "_law_take" "_law_take" (defArgs s_Ltake) (defBody s_Ltake) (defScope s_Ltake) .none kV22 dc22 pm22 an22 cd22 ct22), sl22⟩)
    (c22 : PySem.W.codeIn K cd22 "_law_take" = true)
    (k22 : PySem.W.keepIn K (.ref f22) = true)
    (a23 : PySem.W.nsIn K mainGlobals "_law_other" = some (some (.ref f23)))
    (l23 : K.lookup f23 = some ⟨oc23, od23, .func (PySem.W.fnOf "_law_other" "_law_other" (defArgs s_Lother) (defBody s_Lother) (defScope s_Lother) .none kV23 dc23 pm23 an23 cd23 ct23), sl23⟩)
    (c23 : PySem.W.codeIn K cd23 "_law_other" = true)
    (k23 : PySem.W.keepIn K (.ref f23) = true)
    (a24 : PySem.W.nsIn K mainGlobals "_law_yard" = some (some (.ref f24)))
    (l24 : K.lookup f24 = some ⟨oc24, od24, .func (PySem.W.fnOf "_law_yard" "_law_yard" (defArgs s_Lyard) (defBody s_Lyard) (defScope s_Lyard) .none kV24 dc24 pm24 an24 cd24 ct24), sl24⟩)
    (c24 : PySem.W.codeIn K cd24 "_law_yard" = true)
    (k24 : PySem.W.keepIn K (.ref f24) = true)
    (a25 : PySem.W.nsIn K mainGlobals "_law_word" = some (some (.ref f25)))
    (l25 : K.lookup f25 = some ⟨oc25, od25, .func (PySem.W.fnOf "_law_word" "_law_word" (defArgs s_Lword) (defBody s_Lword) (defScope s_Lword) .none kV25 dc25 pm25 an25 cd25 ct25), sl25⟩)
    (c25 : PySem.W.codeIn K cd25 "_law_word" = true)
    (k25 : PySem.W.keepIn K (.ref f25) = true)
    (a26 : PySem.W.nsIn K mainGlobals "_law_order" = some (some (.ref f26)))
    (l26 : K.lookup f26 = some ⟨oc26, od26, .func (PySem.W.fnOf "_law_order" "_law_order" (defArgs s_Lorder) (defBody s_Lorder) (defScope s_Lorder) .none kV26 dc26 pm26 an26 cd26 ct26), sl26⟩)
    (c26 : PySem.W.codeIn K cd26 "_law_order" = true)
    (k26 : PySem.W.keepIn K (.ref f26) = true)
    (a27 : PySem.W.nsIn K mainGlobals "_law_bands" = some (some (.ref f27)))
    (l27 : K.lookup f27 = some ⟨oc27, od27, .func (PySem.W.fnOf "_law_bands" "_law_bands" (defArgs s_Lbands) (defBody s_Lbands) (defScope s_Lbands) .none kV27 dc27 pm27 an27 cd27 ct27), sl27⟩)
    (c27 : PySem.W.codeIn K cd27 "_law_bands" = true)
    (k27 : PySem.W.keepIn K (.ref f27) = true)
    (a28 : PySem.W.nsIn K mainGlobals "_law_drawing" = some (some (.ref f28)))
    (l28 : K.lookup f28 = some ⟨oc28, od28, .func (PySem.W.fnOf "_law_drawing" "_law_drawing" (defArgs s_Ldrawing) (defBody s_Ldrawing) (defScope s_Ldrawing) .none kV28 dc28 pm28 an28 cd28 ct28), sl28⟩)
    (c28 : PySem.W.codeIn K cd28 "_law_drawing" = true)
    (k28 : PySem.W.keepIn K (.ref f28) = true)
    (a29 : PySem.W.nsIn K mainGlobals "_law_words" = some (some (.ref f29)))
    (l29 : K.lookup f29 = some ⟨oc29, od29, .func (PySem.W.fnOf "_law_words" "_law_words" (defArgs s_Lwords) (defBody s_Lwords) (defScope s_Lwords) .none kV29 dc29 pm29 an29 cd29 ct29), sl29⟩)
    (c29 : PySem.W.codeIn K cd29 "_law_words" = true)
    (k29 : PySem.W.keepIn K (.ref f29) = true)
    (a30 : PySem.W.nsIn K mainGlobals "_law_ring" = some (some (.ref f30)))
    (l30 : K.lookup f30 = some ⟨oc30, od30, .func (PySem.W.fnOf "_law_ring" "_law_ring" (defArgs s_Lring) (defBody s_Lring) (defScope s_Lring) .none kV30 dc30 pm30 an30 cd30 ct30), sl30⟩)
    (c30 : PySem.W.codeIn K cd30 "_law_ring" = true)
    (k30 : PySem.W.keepIn K (.ref f30) = true)
    (a31 : PySem.W.nsIn K mainGlobals "_law_otherwise" = some (some (.ref f31)))
    (l31 : K.lookup f31 = some ⟨oc31, od31, .func (PySem.W.fnOf "_law_otherwise" "_law_otherwise" (defArgs s_Lotherwise) (defBody s_Lotherwise) (defScope s_Lotherwise) .none kV31 dc31 pm31 an31 cd31 ct31), sl31⟩)
    (c31 : PySem.W.codeIn K cd31 "_law_otherwise" = true)
    (k31 : PySem.W.keepIn K (.ref f31) = true)
    (a32 : PySem.W.nsIn K mainGlobals "_law_right" = some (some (.ref f32)))
    (l32 : K.lookup f32 = some ⟨oc32, od32, .func (PySem.W.fnOf "_law_right" "_law_right" (defArgs s_Lright) (defBody s_Lright) (defScope s_Lright) .none kV32 dc32 pm32 an32 cd32 ct32), sl32⟩)
    (c32 : PySem.W.codeIn K cd32 "_law_right" = true)
    (k32 : PySem.W.keepIn K (.ref f32) = true)
    (a33 : PySem.W.nsIn K mainGlobals "law" = some (some (.ref f33)))
    (l33 : K.lookup f33 = some ⟨oc33, od33, .func (PySem.W.fnOf "law" "law" (defArgs s_law) (defBody s_law) (defScope s_law) .none kV33 dc33 pm33 an33 cd33 ct33), sl33⟩)
    (c33 : PySem.W.codeIn K cd33 "law" = true)
    (k33 : PySem.W.keepIn K (.ref f33) = true)
    (z_all : PySem.W.nsIn K mainGlobals "all" = some none)
    (z_enumerate : PySem.W.nsIn K mainGlobals "enumerate" = some none)
    (z_int : PySem.W.nsIn K mainGlobals "int" = some none)
    (z_isinstance : PySem.W.nsIn K mainGlobals "isinstance" = some none)
    (z_len : PySem.W.nsIn K mainGlobals "len" = some none)
    (z_list : PySem.W.nsIn K mainGlobals "list" = some none)
    (z_max : PySem.W.nsIn K mainGlobals "max" = some none)
    (z_min : PySem.W.nsIn K mainGlobals "min" = some none)
    (z_range : PySem.W.nsIn K mainGlobals "range" = some none)
    (z_reversed : PySem.W.nsIn K mainGlobals "reversed" = some none)
    (z_sorted : PySem.W.nsIn K mainGlobals "sorted" = some none)
    (z_tuple : PySem.W.nsIn K mainGlobals "tuple" = some none)
    (z_zip : PySem.W.nsIn K mainGlobals "zip" = some none) :
    ∃ fd : FuncData, (∀ (s : Shared) (v : Value), BindsTo s fd ⟨[v], []⟩ [("_law_script", v)]) /\ ∀ base : Heap, K.In base -> base.Ns mainGlobals mg -> FnOk l.prog w K mg base CX0 9 fa fd ["_law_script"] (sp_law K) := by
  have e := hfa.symm.trans (PySem.W.mg_of X G a33)
  cases e
  have F0 := fun_mk (st := s_contrary) l0 c0 k0
  have b0 := F0.binds (ps := ["letter"]) fun _ _ _ _ _ _ => us_s fun _ => us_z rfl
  have F1 := fun_mk (st := s_bands) l1 c1 k1
  have b1 := F1.binds (ps := ["yard"]) fun _ _ _ _ _ _ => us_s fun _ => us_z rfl
  have F2 := fun_mk (st := s_renumber) l2 c2 k2
  have b2 := F2.binds (ps := ["orders", "cord", "places"]) fun _ _ _ _ _ _ => us_s fun _ => us_s fun _ => us_s fun _ => us_z rfl
  have F3 := fun_mk (st := s_do_swap) l3 c3 k3
  have b3 := F3.binds (ps := ["orders", "band", "number"]) fun _ _ _ _ _ _ => us_s fun _ => us_s fun _ => us_s fun _ => us_z rfl
  have F4 := fun_mk (st := s_do_out) l4 c4 k4
  have b4 := F4.binds (ps := ["words", "orders", "cord", "place"]) fun _ _ _ _ _ _ => us_s fun _ => us_s fun _ => us_s fun _ => us_s fun _ => us_z rfl
  have F5 := fun_mk (st := s_do_in) l5 c5 k5
  have b5 := F5.binds (ps := ["words", "orders", "cord", "place", "letter", "number"]) fun _ _ _ _ _ _ => us_s fun _ => us_s fun _ => us_s fun _ => us_s fun _ => us_s fun _ => us_s fun _ => us_z rfl
  have F6 := fun_mk (st := s_do_turn) l6 c6 k6
  have b6 := F6.binds (ps := ["words", "orders", "cord"]) fun _ _ _ _ _ _ => us_s fun _ => us_s fun _ => us_s fun _ => us_z rfl
  have F7 := fun_mk (st := s_do_deed) l7 c7 k7
  have b7 := F7.binds (ps := ["yard", "words", "orders", "deed"]) fun _ _ _ _ _ _ => us_s fun _ => us_s fun _ => us_s fun _ => us_s fun _ => us_z rfl
  have F8 := fun_mk (st := s_done) l8 c8 k8
  have b8 := F8.binds (ps := ["yard", "drawing", "deeds"]) fun _ _ _ _ _ _ => us_s fun _ => us_s fun _ => us_s fun _ => us_z rfl
  have F9 := fun_mk (st := s_shortened) l9 c9 k9
  have b9 := F9.binds (ps := ["word"]) fun _ _ _ _ _ _ => us_s fun _ => us_z rfl
  have F10 := fun_mk (st := s_shortest) l10 c10 k10
  have b10 := F10.binds (ps := ["word"]) fun _ _ _ _ _ _ => us_s fun _ => us_z rfl
  have F11 := fun_mk (st := s_ring) l11 c11 k11
  have b11 := F11.binds (ps := ["word"]) fun _ _ _ _ _ _ => us_s fun _ => us_z rfl
  have F12 := fun_mk (st := s_are_one) l12 c12 k12
  have b12 := F12.binds (ps := ["one", "other"]) fun _ _ _ _ _ _ => us_s fun _ => us_s fun _ => us_z rfl
  have F13 := fun_mk (st := s_pairs_out) l13 c13 k13
  have b13 := F13.binds (ps := ["word"]) fun _ _ _ _ _ _ => us_s fun _ => us_z rfl
  have F14 := fun_mk (st := s_way_down) l14 c14 k14
  have b14 := F14.binds (ps := ["cord", "word"]) fun _ _ _ _ _ _ => us_s fun _ => us_s fun _ => us_z rfl
  have F15 := fun_mk (st := s_way_up) l15 c15 k15
  have b15 := F15.binds (ps := ["cord", "word"]) fun _ _ _ _ _ _ => us_s fun _ => us_s fun _ => us_z rfl
  have F16 := fun_mk (st := s_turns_between) l16 c16 k16
  have b16 := F16.binds (ps := ["one", "other"]) fun _ _ _ _ _ _ => us_s fun _ => us_s fun _ => us_z rfl
  have F17 := fun_mk (st := s_word_road) l17 c17 k17
  have b17 := F17.binds (ps := ["cord", "one", "other"]) fun _ _ _ _ _ _ => us_s fun _ => us_s fun _ => us_s fun _ => us_z rfl
  have F18 := fun_mk (st := s_order_road) l18 c18 k18
  have b18 := F18.binds (ps := ["band", "one", "other"]) fun _ _ _ _ _ _ => us_s fun _ => us_s fun _ => us_s fun _ => us_z rfl
  have F19 := fun_mk (st := s_same_cords) l19 c19 k19
  have b19 := F19.binds (ps := ["one", "other"]) fun _ _ _ _ _ _ => us_s fun _ => us_s fun _ => us_z rfl
  have F20 := fun_mk (st := s_road) l20 c20 k20
  have b20 := F20.binds (ps := ["yard", "one", "other"]) fun _ _ _ _ _ _ => us_s fun _ => us_s fun _ => us_s fun _ => us_z rfl
  have F21 := fun_mk (st := s_Lbox) l21 c21 k21
  have b21 := F21.binds (ps := ["_law_script", "_law_k"]) fun _ _ _ _ _ _ => us_s fun _ => us_s fun _ => us_z rfl
  have F22 := fun_mk (st := s_Ltake) l22 c22 k22
  have b22 := F22.binds (ps := ["_law_box_here", "_law_many"]) fun _ _ _ _ _ _ => us_s fun _ => us_s fun _ => us_z rfl
  have F23 := fun_mk (st := s_Lother) l23 c23 k23
  have b23 := F23.binds (ps := ["_law_letter"]) fun _ _ _ _ _ _ => us_s fun _ => us_z rfl
  have F24 := fun_mk (st := s_Lyard) l24 c24 k24
  have b24 := F24.binds (ps := ["_law_box_here", "_law_few", "_law_top"]) fun _ _ _ _ _ _ => us_s fun _ => us_s fun _ => us_s fun _ => us_z rfl
  have F25 := fun_mk (st := s_Lword) l25 c25 k25
  have b25 := F25.binds (ps := ["_law_box_here", "_law_yard_here", "_law_top"]) fun _ _ _ _ _ _ => us_s fun _ => us_s fun _ => us_s fun _ => us_z rfl
  have F26 := fun_mk (st := s_Lorder) l26 c26 k26
  have b26 := F26.binds (ps := ["_law_box_here", "_law_things"]) fun _ _ _ _ _ _ => us_s fun _ => us_s fun _ => us_z rfl
  have F27 := fun_mk (st := s_Lbands) l27 c27 k27
  have b27 := F27.binds (ps := ["_law_yard_here"]) fun _ _ _ _ _ _ => us_s fun _ => us_z rfl
  have F28 := fun_mk (st := s_Ldrawing) l28 c28 k28
  have b28 := F28.binds (ps := ["_law_box_here", "_law_yard_here", "_law_words_here"]) fun _ _ _ _ _ _ => us_s fun _ => us_s fun _ => us_s fun _ => us_z rfl
  have F29 := fun_mk (st := s_Lwords) l29 c29 k29
  have b29 := F29.binds (ps := ["_law_box_here", "_law_yard_here"]) fun _ _ _ _ _ _ => us_s fun _ => us_s fun _ => us_z rfl
  have F30 := fun_mk (st := s_Lring) l30 c30 k30
  have b30 := F30.binds (ps := ["_law_word_here"]) fun _ _ _ _ _ _ => us_s fun _ => us_z rfl
  have F31 := fun_mk (st := s_Lotherwise) l31 c31 k31
  have b31 := F31.binds (ps := ["_law_box_here", "_law_yard_here", "_law_words_here"]) fun _ _ _ _ _ _ => us_s fun _ => us_s fun _ => us_s fun _ => us_z rfl
  have F32 := fun_mk (st := s_Lright) l32 c32 k32
  have b32 := F32.binds (ps := ["_law_yard_here", "_law_one", "_law_other_here"]) fun _ _ _ _ _ _ => us_s fun _ => us_s fun _ => us_s fun _ => us_z rfl
  have F33 := fun_mk (st := s_law) l33 c33 k33
  have b33 := F33.binds (ps := ["_law_script"]) fun _ _ _ _ _ _ => us_s fun _ => us_z rfl
  have T : Txt K mg _ _ _ _ _ _ _ _ _ _ _ _ _ _ _ _ _ _ _ _ _ _ _ _ _ _ _ _ _ _ _ _ _ _ _ _ _ _ _ _ _ _ _ _ _ _ _ _ _ _ _ _ _ _ _ _ _ _ _ _ _ _ _ _ _ _ _ _ := ⟨⟨F0, PySem.W.mg_of X G a0, b0⟩, ⟨F1, PySem.W.mg_of X G a1, b1⟩, ⟨F2, PySem.W.mg_of X G a2, b2⟩, ⟨F3, PySem.W.mg_of X G a3, b3⟩, ⟨F4, PySem.W.mg_of X G a4, b4⟩, ⟨F5, PySem.W.mg_of X G a5, b5⟩, ⟨F6, PySem.W.mg_of X G a6, b6⟩, ⟨F7, PySem.W.mg_of X G a7, b7⟩, ⟨F8, PySem.W.mg_of X G a8, b8⟩, ⟨F9, PySem.W.mg_of X G a9, b9⟩, ⟨F10, PySem.W.mg_of X G a10, b10⟩, ⟨F11, PySem.W.mg_of X G a11, b11⟩, ⟨F12, PySem.W.mg_of X G a12, b12⟩, ⟨F13, PySem.W.mg_of X G a13, b13⟩, ⟨F14, PySem.W.mg_of X G a14, b14⟩, ⟨F15, PySem.W.mg_of X G a15, b15⟩, ⟨F16, PySem.W.mg_of X G a16, b16⟩, ⟨F17, PySem.W.mg_of X G a17, b17⟩, ⟨F18, PySem.W.mg_of X G a18, b18⟩, ⟨F19, PySem.W.mg_of X G a19, b19⟩, ⟨F20, PySem.W.mg_of X G a20, b20⟩, ⟨F21, PySem.W.mg_of X G a21, b21⟩, ⟨F22, PySem.W.mg_of X G a22, b22⟩, ⟨F23, PySem.W.mg_of X G a23, b23⟩, ⟨F24, PySem.W.mg_of X G a24, b24⟩, ⟨F25, PySem.W.mg_of X G a25, b25⟩, ⟨F26, PySem.W.mg_of X G a26, b26⟩, ⟨F27, PySem.W.mg_of X G a27, b27⟩, ⟨F28, PySem.W.mg_of X G a28, b28⟩, ⟨F29, PySem.W.mg_of X G a29, b29⟩, ⟨F30, PySem.W.mg_of X G a30, b30⟩, ⟨F31, PySem.W.mg_of X G a31, b31⟩, ⟨F32, PySem.W.mg_of X G a32, b32⟩, ⟨F33, PySem.W.mg_of X G a33, b33⟩, PySem.W.mg_none_of X G z_all, PySem.W.mg_none_of X G z_enumerate, PySem.W.mg_none_of X G z_int, PySem.W.mg_none_of X G z_isinstance, PySem.W.mg_none_of X G z_len, PySem.W.mg_none_of X G z_list, PySem.W.mg_none_of X G z_max, PySem.W.mg_none_of X G z_min, PySem.W.mg_none_of X G z_range, PySem.W.mg_none_of X G z_reversed, PySem.W.mg_none_of X G z_sorted, PySem.W.mg_none_of X G z_tuple, PySem.W.mg_none_of X G z_zip⟩
  exact ⟨_, fun s v => .of_eq rfl, fun base _ _ => ok_law T⟩
theorem walk {l : PySem.W.OpenLaw} {q : Program} {loose : List Str} {XP : (Str -> Option Value) -> Heap -> Prop} {YP : World -> Heap -> Prop} {d : DefRec} {K : Params -> PySem.W.Frag} (hn : l.most = some 63) (hdf : d.params.defaults = [])
    (hY : ∀ (w : World) (h : Heap), YP w h -> (K w.params).In h)
    (F : ∀ (w : World) (mg : Str -> Option Value) (fa : Addr) (h : Heap), (K w.params).In h -> h.Ns mainGlobals mg -> mg d.name = some (.ref fa) ->
      ∃ fd : FuncData, (∀ (s : Shared) (u : Value), BindsTo s fd ⟨[u], []⟩ [("_law_script", u)]) /\ ∀ base : Heap, (K w.params).In base -> base.Ns mainGlobals mg -> FnOk l.prog w (K w.params) mg base CX0 9 fa fd ["_law_script"] (sp_law (K w.params))) :
    PySem.W.WalkO q loose XP YP l.row.toRowW d [] (fun f vs => PySem.call f vs) :=
  L2.walk_of (n := 63) (k := 9) (x := "_law_script") (CX := fun _ => CX0) (sp := fun w => sp_law (K w.params)) hn (by decide) hdf ⟨rfl, by decide, by decide, rfl⟩ hY F (fun _ _ a ns hl _ hS => ⟨a, ns, rfl, hS, hl, fun _ => rfl⟩) fun _ _ _ _ _ z => z
end My
namespace PySem.W.Fast
def tw10006999324278246046:=0
def tw10058069851294064653:=0
def tw10174284424052639816:=0
def tw10219230745806261061:=0
def tw10374483905049789889:=0
def tw10660196063608911336:=0
def tw10718351496275170658:=0
def tw10889297495787871734:=0
def tw1092101682028579142:=0
def tw1097666154379980509:=0
def tw11038916226128665266:=0
def tw11086920172494869200:=0
def tw11162574620997392437:=0
def tw11189519577151489132:=0
def tw11203131247594241030:=0
def tw11229766185629739799:=0
def tw11431188702964717145:=0
def tw11558909560333710910:=0
def tw11595296996245773768:=0
def tw11858173121738702293:=0
def tw11869221538430245562:=0
def tw1197143513398078793:=0
def tw1208972123455195041:=0
def tw12180328600883811099:=0
def tw12191585818790441031:=0
def tw12214820606926788102:=0
def tw12408576888759567874:=0
def tw12443700731372371674:=0
def tw12601866357161855618:=0
def tw1262675280392599954:=0
def tw12809939683336536410:=0
def tw12833054729189494938:=0
def tw12833119222704121007:=0
def tw13037119696727545399:=0
def tw13057492320370141576:=0
def tw13062799663380364204:=0
def tw132704034749240864:=0
def tw13292760807368215914:=0
def tw13309977348108664532:=0
def tw13494765431441591229:=0
def tw13500901056938186770:=0
def tw13515604745379998015:=0
def tw1363128354852085571:=0
def tw13665975663782843537:=0
def tw13715222467361386752:=0
def tw13851884160005449243:=0
def tw13912803476335587012:=0
def tw13995542472095723509:=0
def tw14029217506150658362:=0
def tw14122885232142623804:=0
def tw14175117738257683196:=0
def tw1422129431857063738:=0
def tw14278060287865415790:=0
def tw1431506637016284651:=0
def tw14326457624306832581:=0
def tw14457799538010856743:=0
def tw14541375067922387139:=0
def tw14555465830925794095:=0
def tw14556522978965984431:=0
def tw14593103528831852235:=0
def tw14601314607629054055:=0
def tw14893409311576865637:=0
def tw14897154659697063126:=0
def tw14902283453677152236:=0
def tw14933931200144960759:=0
def tw15016357609063383155:=0
def tw15021880190979982095:=0
def tw15128929743050057545:=0
def tw15163158633604183927:=0
def tw1516929091926378240:=0
def tw15179016350310659352:=0
def tw15295034641911439808:=0
def tw15863849362107826481:=0
def tw15924353705993652682:=0
def tw1600307573479319270:=0
def tw16145534429248774516:=0
def tw16153830041333649685:=0
def tw1622548011477776033:=0
def tw1625592801911337490:=0
def tw16256665194894094316:=0
def tw16263903472546475556:=0
def tw16272867748425155349:=0
def tw16307557676874072826:=0
def tw16309078797984520055:=0
def tw16558488305940465182:=0
def tw16559184180898648010:=0
def tw1657906791339594042:=0
def tw16587244031677640556:=0
def tw16684758872384435030:=0
def tw16928899558686474952:=0
def tw17186388652277797584:=0
def tw17187039298229550055:=0
def tw17195136103874399488:=0
def tw1724303311486078687:=0
def tw17274692418666088126:=0
def tw17286188765990096029:=0
def tw17309044614131245759:=0
def tw17371946666883420778:=0
def tw1738233354312706764:=0
def tw17442621376955360174:=0
def tw17493307457830336056:=0
def tw17559539810072614736:=0
def tw17698559738439766974:=0
def tw17726442486454061964:=0
def tw17749359478821447155:=0
def tw17802181301522533408:=0
def tw17986746325682671009:=0
def tw17994864137705467872:=0
def tw18130130822112104194:=0
def tw18212310151458846101:=0
def tw18216296277657227485:=0
def tw18225346694602134294:=0
def tw1826919707218491595:=0
def tw18365909356286982687:=0
def tw18380760523335178446:=0
def tw18405880332492009924:=0
def tw18442288185062472558:=0
def tw1894339657245559137:=0
def tw192732962550103908:=0
def tw1992201940010094922:=0
def tw2028607828563906752:=0
def tw2125971708360611369:=0
def tw2153154788216839569:=0
def tw224706887943824565:=0
def tw2325804833674033832:=0
def tw265747486899080030:=0
def tw2765999830096764459:=0
def tw2847970475282087645:=0
def tw295304265670210158:=0
def tw3087054897472261440:=0
def tw3160204085298739220:=0
def tw3274549915602768427:=0
def tw3306140985628928410:=0
def tw334060909402157579:=0
def tw3351512274080730789:=0
def tw3373417350880338815:=0
def tw3374747835264455430:=0
def tw3450580847578495341:=0
def tw3456819686224439054:=0
def tw3493202061450023897:=0
def tw3493883869123360880:=0
def tw3529109280482374096:=0
def tw3580578463693572275:=0
def tw3637917911946695861:=0
def tw3769738891193397549:=0
def tw3802749884264460073:=0
def tw3936333724527195743:=0
def tw3956021501565785554:=0
def tw397570989775077658:=0
def tw4011228094949491108:=0
def tw4038938425770660877:=0
def tw426784441247184049:=0
def tw427188777282874280:=0
def tw4318520933184090103:=0
def tw4404264778371433999:=0
def tw4411415876885403382:=0
def tw4446349673938623585:=0
def tw451321005827931889:=0
def tw4589838584579133553:=0
def tw4674619928990235778:=0
def tw4737241484967220782:=0
def tw4879488595932576213:=0
def tw498008702727216457:=0
def tw5053154642243600747:=0
def tw512782009547533998:=0
def tw5138886950810500562:=0
def tw5154089169562817591:=0
def tw5239840670839302768:=0
def tw5301319576018042372:=0
def tw531435274855727063:=0
def tw5349753385246595497:=0
def tw5422382530525411311:=0
def tw5435539894565213729:=0
def tw5557001516762035969:=0
def tw5617174954719089963:=0
def tw5694222478127237831:=0
def tw5696265788290688881:=0
def tw5704013911374748748:=0
def tw5706540718246112616:=0
def tw5707707229559674302:=0
def tw5837634706948409623:=0
def tw5904872464106822673:=0
def tw5906123993065196082:=0
def tw6007862917116563253:=0
def tw6189127320285263214:=0
def tw6194696171837603083:=0
def tw6240013953430099972:=0
def tw6253699663142266569:=0
def tw6428354128844528024:=0
def tw644082594253459459:=0
def tw6488760424947441260:=0
def tw6493081912134106610:=0
def tw6495653606251122684:=0
def tw6595117696104963569:=0
def tw6677411380502758973:=0
def tw6680226532882525157:=0
def tw6780200391335853726:=0
def tw6780209560677878210:=0
def tw6783996380717531362:=0
def tw6796035086365291544:=0
def tw6915404056190787417:=0
def tw7128444293929589694:=0
def tw7252824803244994188:=0
def tw7260475222866925881:=0
def tw7304382862023267121:=0
def tw7307691714833701101:=0
def tw7328365155833298679:=0
def tw7363778846883219830:=0
def tw7459619925730297521:=0
def tw7499238500653776580:=0
def tw7689446930246138151:=0
def tw7725347332381293519:=0
def tw779827808158012056:=0
def tw7903325457771410839:=0
def tw7992355444846847996:=0
def tw8037793074475379599:=0
def tw8068668865085078236:=0
def tw8154541881410203063:=0
def tw8329651179713657631:=0
def tw8578787513166213044:=0
def tw8688154985032044595:=0
def tw8735674895032079940:=0
def tw8744474302523210091:=0
def tw8752705554735330240:=0
def tw8826809431855584017:=0
def tw887978098370701212:=0
def tw8983842334723764868:=0
def tw8985407020331777142:=0
def tw903080787656243448:=0
def tw9100168697572636975:=0
def tw9272848751619254794:=0
def tw9282878816991230145:=0
def tw9406223704564006300:=0
def tw9498126654523777486:=0
def tw9572537274681755801:=0
def tw962426338978237652:=0
def tw9624922113617142167:=0
def tw9729505908663399781:=0
def tw9894210389666323211:=0
def tw9901901424864006348:=0
end PySem.W.Fast
open PySem PySem.W PyProof.Rows
set_option maxRecDepth 100000 in
set_option maxHeartbeats 0 in
theorem PySem.Challenge.cw_mustmeet_k24_no_road_holds : PySem.Challenge.rw_mustmeet_k24_no_road.Holds := by
  w_on; o_law; k_head; (case hw => w_witness2)
  k_fill
  refine My.walk (l := PySem.Challenge.rw_mustmeet_k24_no_road) rfl rfl (fun w h Y => PySem.W.kIn_of Y) ?F
  case F =>
    intro w mg fa h KX G hmg
    refine' My.all_mk KX G hmg ?a0 ?l0 ?c0 ?k0 ?a1 ?l1 ?c1 ?k1 ?a2 ?l2 ?c2 ?k2 ?a3 ?l3 ?c3 ?k3 ?a4 ?l4 ?c4 ?k4 ?a5 ?l5 ?c5 ?k5 ?a6 ?l6 ?c6 ?k6 ?a7 ?l7 ?c7 ?k7 ?a8 ?l8 ?c8 ?k8 ?a9 ?l9 ?c9 ?k9 ?a10 ?l10 ?c10 ?k10 ?a11 ?l11 ?c11 ?k11 ?a12 ?l12 ?c12 ?k12 ?a13 ?l13 ?c13 ?k13 ?a14 ?l14 ?c14 ?k14 ?a15 ?l15 ?c15 ?k15 ?a16 ?l16 ?c16 ?k16 ?a17 ?l17 ?c17 ?k17 ?a18 ?l18 ?c18 ?k18 ?a19 ?l19 ?c19 ?k19 ?a20 ?l20 ?c20 ?k20 ?a21 ?l21 ?c21 ?k21 ?a22 ?l22 ?c22 ?k22 ?a23 ?l23 ?c23 ?k23 ?a24 ?l24 ?c24 ?k24 ?a25 ?l25 ?c25 ?k25 ?a26 ?l26 ?c26 ?k26 ?a27 ?l27 ?c27 ?k27 ?a28 ?l28 ?c28 ?k28 ?a29 ?l29 ?c29 ?k29 ?a30 ?l30 ?c30 ?k30 ?a31 ?l31 ?c31 ?k31 ?a32 ?l32 ?c32 ?k32 ?a33 ?l33 ?c33 ?k33 ?z_all ?z_enumerate ?z_int ?z_isinstance ?z_len ?z_list ?z_max ?z_min ?z_range ?z_reversed ?z_sorted ?z_tuple ?z_zip
    (case a0 => k_is)
    (case l0 => k_is)
    (case c0 => k_is)
    (case k0 => k_is)
    (case a1 => k_is)
    (case l1 => k_is)
    (case c1 => k_is)
    (case k1 => k_is)
    (case a2 => k_is)
    (case l2 => k_is)
    (case c2 => k_is)
    (case k2 => k_is)
    (case a3 => k_is)
    (case l3 => k_is)
    (case c3 => k_is)
    (case k3 => k_is)
    (case a4 => k_is)
    (case l4 => k_is)
    (case c4 => k_is)
    (case k4 => k_is)
    (case a5 => k_is)
    (case l5 => k_is)
    (case c5 => k_is)
    (case k5 => k_is)
    (case a6 => k_is)
    (case l6 => k_is)
    (case c6 => k_is)
    (case k6 => k_is)
    (case a7 => k_is)
    (case l7 => k_is)
    (case c7 => k_is)
    (case k7 => k_is)
    (case a8 => k_is)
    (case l8 => k_is)
    (case c8 => k_is)
    (case k8 => k_is)
    (case a9 => k_is)
    (case l9 => k_is)
    (case c9 => k_is)
    (case k9 => k_is)
    (case a10 => k_is)
    (case l10 => k_is)
    (case c10 => k_is)
    (case k10 => k_is)
    (case a11 => k_is)
    (case l11 => k_is)
    (case c11 => k_is)
    (case k11 => k_is)
    (case a12 => k_is)
    (case l12 => k_is)
    (case c12 => k_is)
    (case k12 => k_is)
    (case a13 => k_is)
    (case l13 => k_is)
    (case c13 => k_is)
    (case k13 => k_is)
    (case a14 => k_is)
    (case l14 => k_is)
    (case c14 => k_is)
    (case k14 => k_is)
    (case a15 => k_is)
    (case l15 => k_is)
    (case c15 => k_is)
    (case k15 => k_is)
    (case a16 => k_is)
    (case l16 => k_is)
    (case c16 => k_is)
    (case k16 => k_is)
    (case a17 => k_is)
    (case l17 => k_is)
    (case c17 => k_is)
    (case k17 => k_is)
    (case a18 => k_is)
    (case l18 => k_is)
    (case c18 => k_is)
    (case k18 => k_is)
    (case a19 => k_is)
    (case l19 => k_is)
    (case c19 => k_is)
    (case k19 => k_is)
    (case a20 => k_is)
    (case l20 => k_is)
    (case c20 => k_is)
    (case k20 => k_is)
    (case a21 => k_is)
    (case l21 => k_is)
    (case c21 => k_is)
    (case k21 => k_is)
    (case a22 => k_is)
    (case l22 => k_is)
    (case c22 => k_is)
    (case k22 => k_is)
    (case a23 => k_is)
    (case l23 => k_is)
    (case c23 => k_is)
    (case k23 => k_is)
    (case a24 => k_is)
    (case l24 => k_is)
    (case c24 => k_is)
    (case k24 => k_is)
    (case a25 => k_is)
    (case l25 => k_is)
    (case c25 => k_is)
    (case k25 => k_is)
    (case a26 => k_is)
    (case l26 => k_is)
    (case c26 => k_is)
    (case k26 => k_is)
    (case a27 => k_is)
    (case l27 => k_is)
    (case c27 => k_is)
    (case k27 => k_is)
    (case a28 => k_is)
    (case l28 => k_is)
    (case c28 => k_is)
    (case k28 => k_is)
    (case a29 => k_is)
    (case l29 => k_is)
    (case c29 => k_is)
    (case k29 => k_is)
    (case a30 => k_is)
    (case l30 => k_is)
    (case c30 => k_is)
    (case k30 => k_is)
    (case a31 => k_is)
    (case l31 => k_is)
    (case c31 => k_is)
    (case k31 => k_is)
    (case a32 => k_is)
    (case l32 => k_is)
    (case c32 => k_is)
    (case k32 => k_is)
    (case a33 => k_is)
    (case l33 => k_is)
    (case c33 => k_is)
    (case k33 => k_is)
    (case z_all => k_is)
    (case z_enumerate => k_is)
    (case z_int => k_is)
    (case z_isinstance => k_is)
    (case z_len => k_is)
    (case z_list => k_is)
    (case z_max => k_is)
    (case z_min => k_is)
    (case z_range => k_is)
    (case z_reversed => k_is)
    (case z_sorted => k_is)
    (case z_tuple => k_is)
    (case z_zip => k_is)
