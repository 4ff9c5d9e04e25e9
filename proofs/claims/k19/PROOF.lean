import PyProof.Rows.All
import Wide.All
import OpenK.AllK
import Wide.FinOn
import Lean
import PyProof.EqAt
import PyProof.EqKinds
import PyProof.TupleCall
import PySem.Challenge.RW_mustmeet_k19_whole_drawings_told_otherwi
set_option Elab.async false
set_option linter.all false
set_option maxRecDepth 100000
namespace L2
open PySem PySem.Spec PyProof.Rows
noncomputable abbrev Key := Sum Int Str
noncomputable def keyIs : Key -> Value -> Bool
  | .inl k, v => Value.isInt k v
  | .inr x, v => Value.isStrOf x v
noncomputable def keyH (w : World) : Key -> Int
  | .inl k => hashInt k
  | .inr x => hashStr w x
theorem keyIs_shape : ∀ {k : Key} {v : Value}, keyIs k v = true -> (∃ i t, k = Sum.inl i /\ v = Value.int i t) \/ (∃ x t, k = Sum.inr x /\ v = Value.str x t)
  | .inl i, v, h => by
    obtain ⟨t, e⟩ := Value.isInt_shape (k := i) (v := v) h
    exact .inl ⟨i, t, rfl, e⟩
  | .inr x, v, h => by
    obtain ⟨t, e⟩ := Value.isStrOf_shape (x := x) (v := v) h
    exact .inr ⟨x, t, rfl, e⟩
theorem keyIs_int (i : Int) (t : Tok) : keyIs (.inl i) (.int i t) = true := by simp [keyIs, Value.isInt]
theorem keyIs_str (x : Str) (t : Tok) : keyIs (.inr x) (.str x t) = true := by simp [keyIs, Value.isStrOf]
theorem key_ll (a b : Int) : decide ((Sum.inl a : Key) = Sum.inl b) = (a == b) := by
  by_cases e : a = b
  · subst e; simp
  · have h : ¬ (Sum.inl a : Key) = Sum.inl b := fun q => e (Sum.inl.inj q)
    rw [decide_eq_false h]
    exact (beq_eq_false_iff_ne.mpr e).symm
theorem key_rr (a b : Str) : decide ((Sum.inr a : Key) = Sum.inr b) = decide (a = b) := by
  by_cases e : a = b
  · subst e; simp
  · have h : ¬ (Sum.inr a : Key) = Sum.inr b := fun q => e (Sum.inr.inj q)
    rw [decide_eq_false h, decide_eq_false e]
theorem key_lr (a : Int) (b : Str) : decide ((Sum.inl a : Key) = Sum.inr b) = false := decide_eq_false (fun q => nomatch q)
theorem key_rl (a : Str) (b : Int) : decide ((Sum.inr a : Key) = Sum.inl b) = false := decide_eq_false (fun q => nomatch q)
noncomputable def mixKind (prog : Program) (w : World) : PySem.KeyKind prog w Key where
  is := keyIs
  hash := keyH w
  inj := fun v a b ha hb => by
    rcases keyIs_shape ha with ⟨i, t, rfl, rfl⟩ | ⟨x, t, rfl, rfl⟩
    · rcases keyIs_shape hb with ⟨j, u, rfl, e⟩ | ⟨y, u, rfl, e⟩
      · injection e with e1 _; rw [e1]
      · exact nomatch e
    · rcases keyIs_shape hb with ⟨j, u, rfl, e⟩ | ⟨y, u, rfl, e⟩
      · exact nomatch e
      · injection e with e1 _; rw [e1]
  byValue := fun k v h => by
    rcases keyIs_shape h with ⟨i, t, rfl, rfl⟩ | ⟨x, t, rfl, rfl⟩ <;> rfl
  pyHash := fun hv h => by
    rcases keyIs_shape hv with ⟨i, t, rfl, rfl⟩ | ⟨x, t, rfl, rfl⟩
    · exact wpAny_pyHash_int h
    · exact wpAny_pyHash_str h
  eqBool := fun hu hv h => by
    rcases keyIs_shape hu with ⟨i, t, rfl, rfl⟩ | ⟨x, t, rfl, rfl⟩
    · rcases keyIs_shape hv with ⟨j, u, rfl, rfl⟩ | ⟨y, u, rfl, rfl⟩
      · rw [key_ll] at h; exact wpAny_eqBool_int h
      · rw [key_lr] at h; exact SeqAt.EqAt.int_str i t y u _ _ _ _ h
    · rcases keyIs_shape hv with ⟨j, u, rfl, rfl⟩ | ⟨y, u, rfl, rfl⟩
      · rw [key_rl] at h; exact SeqAt.EqAt.str_int x t j u _ _ _ _ h
      · rw [key_rr] at h; exact wpAny_eqBool_str h
  «strs» := fun k x t v h => by
    rcases keyIs_shape h with ⟨i, u, rfl, e⟩ | ⟨y, u, rfl, e⟩
    · exact nomatch e
    · injection e with e1 _
      subst e1
      cases v <;> rfl
theorem mixKind_int (prog : Program) (w : World) (i : Int) (t : Tok) : (mixKind prog w).is (.inl i) (.int i t) = true := keyIs_int i t
theorem mixKind_str (prog : Program) (w : World) (x : Str) (t : Tok) : (mixKind prog w).is (.inr x) (.str x t) = true := keyIs_str x t
end L2
namespace L2
open PySem PySem.Spec PyProof.Rows
inductive V where
  | non | bl (b : Bool) | int (i : Int) | str (x : Str) | byt (b : Array UInt8) | flt (b : UInt64) | ref (a : Addr) | ty (n : String)
  deriving DecidableEq
noncomputable def RelV : V -> Value -> Prop
  | .non, u => u = Value.none
  | .bl b, u => u = Value.bool b
  | .int i, u => ∃ t, u = Value.int i t
  | .str x, u => ∃ t, u = Value.str x t
  | .byt b, u => ∃ t, u = Value.bytes b t
  | .flt b, u => ∃ t, u = Value.float b t
  | .ref a, u => u = Value.ref a
  | .ty n, u => u = Value.type n
noncomputable abbrev Vals : List V -> List Value -> Prop := Paired RelV
theorem Vals.length {xs : List V} {us : List Value} (r : Vals xs us) : xs.length = us.length := Paired.length r
theorem Vals.get : ∀ {xs : List V} {us : List Value} {i : Nat} {x : V}, Vals xs us -> xs[i]? = some x -> ∃ u, us[i]? = some u /\ RelV x u
  | _, _, _, _, .nil, e => by simp at e
  | _, _, 0, _, .cons r _, e => by simp at e; subst e; exact ⟨_, rfl, r⟩
  | _, _, i + 1, x, .cons _ t, e => by
    obtain ⟨u, h1, h2⟩ := Vals.get (i := i) (x := x) t (by simpa using e)
    exact ⟨u, by simpa using h1, h2⟩
theorem Vals.set {x : V} {u : Value} (r : RelV x u) : ∀ {xs : List V} {us : List Value} (i : Nat), Vals xs us -> Vals (xs.set i x) (us.set i u)
  | _, _, _, .nil => .nil
  | _, _, 0, .cons _ t => .cons r t
  | _, _, i + 1, .cons q t => .cons q (Vals.set r i t)
theorem Vals.append : ∀ {xs ys : List V} {us ws : List Value}, Vals xs us -> Vals ys ws -> Vals (xs ++ ys) (us ++ ws)
  | _, _, _, _, .nil, s => s
  | _, _, _, _, .cons r t, s => .cons r (Vals.append t s)
theorem Vals.take : ∀ {xs : List V} {us : List Value} (n : Nat), Vals xs us -> Vals (xs.take n) (us.take n)
  | _, _, 0, _ => .nil
  | _, _, _ + 1, .nil => .nil
  | _, _, n + 1, .cons r t => .cons r (Vals.take n t)
theorem Vals.drop : ∀ {xs : List V} {us : List Value} (n : Nat), Vals xs us -> Vals (xs.drop n) (us.drop n)
  | _, _, 0, r => r
  | _, _, _ + 1, .nil => .nil
  | _, _, n + 1, .cons _ t => Vals.drop n t
noncomputable def RelO : Option V -> Option Value -> Prop
  | some v, some u => RelV v u
  | none, none => True
  | _, _ => False
noncomputable def KV {κ : Type} : List (κ × V) -> List (κ × Value) -> Prop := Paired fun (p : κ × V) (q : κ × Value) => p.1 = q.1 /\ RelV p.2 q.2
noncomputable def kV : Key -> V
  | .inl i => .int i
  | .inr x => .str x
inductive HO where
    | lst (xs : List V)
    | tup (xs : List V)
    | dK (kvs : List (Key × V)) | dT (kvs : List (List Key × V))
    | set (S : Int -> Bool) (n : Nat)
    | ins (C dx : Addr) (fs : List (Str × V))
    | own (x : Addr)
    | xd (fs : List (Str × V))
    | met (f x : Addr)
    | rng (lo hi : Int)
    | frz (o : Obj) (u : HO)
    | tbl (ps : Array Value)
    | ext (φ : Heap -> Prop)
noncomputable abbrev Hp := Addr -> Option HO
noncomputable def upd (H : Hp) (a : Addr) (o : HO) : Hp := fun b => if b = a then some o else H b
theorem upd_same {H : Hp} {a : Addr} {o : HO} : upd H a o a = some o := by unfold upd; rw [if_pos rfl]
theorem upd_ne {H : Hp} {a b : Addr} {o : HO} (h : b ≠ a) : upd H a o b = H b := by unfold upd; rw [if_neg h]
theorem ne_of {H : Hp} {a b : Addr} {o u : HO} (h : H a = some o) (h' : H b = some u) (d : o ≠ u) : a ≠ b := by
  intro e; subst e; rw [h] at h'; exact d (Option.some.inj h')
theorem ne_of_none {H : Hp} {a b : Addr} {o : HO} (h : H a = some o) (h' : H b = none) : a ≠ b := by
  intro e; subst e; rw [h] at h'; cases h'
section
variable (P : Program) (w : World)
noncomputable def ObjOk (H : Hp) (h : Heap) (a : Addr) : HO -> Prop
  | .lst xs => xs.length <= sizeLine /\ ∃ (its : List Value) (n : Nat), Vals xs its /\ h.get? a = some { cls := .type "list", data := .seq its.toArray n }
  | .tup xs => xs.length <= sizeLine /\ ∃ its : List Value, Vals xs its /\ IsTup h a its.toArray
  | .dK kvs => kvs.length <= sizeLine /\ (a == sysModules) = false /\ ∃ vs, KV kvs vs /\ h.DictOf (mixKind P w) a vs
  | .dT kvs => kvs.length <= sizeLine /\ (a == sysModules) = false /\ ∃ xs : List (List Key × Addr × Value),
      Paired (fun (p : List Key × V) (q : List Key × Addr × Value) => p.1 = q.1 /\ H q.2.1 = some (.tup (p.1.map kV)) /\ RelV p.2 q.2.2) kvs xs /\
      ∃ o es ep, h.get? a = some o /\ o.ExactDict /\ o.data = .dict es ep /\ es.toList = xs.map (entryOfKey (tupleKind (mixKind P w))) /\ (xs.map (·.1)).Nodup
  | .set S n => h.SetOf (intKind P w) a S n
  | .ins C dx fs => H dx = some (.own a) /\ fs.length <= 1000 /\ dx ≠ a /\ h.get? a = some (PySem.W.instObj C dx) /\
      ∃ mA, h.Ns1 dx mA /\ (∀ f, RelO (fs.lookup f) (mA f)) /\ PySem.Within mA (fs.map (·.1))
  | .own _ => ∃ o, h.get? a = some o
  | .xd fs => ∃ mA, h.Ns1 a mA /\ ∀ f, RelO (fs.lookup f) (mA f)
  | .rng lo hi => ∃ t u v, h.get? a = some { cls := .type "range", data := .fields #[.int lo t, .int hi u, .int 1 v] }
  | .frz o u => h.get? a = some o /\ ObjOk H h a u
  | .tbl ps => h.get? a = some { cls := .none, data := .fields ps }
  | .met f x => h.get? a = some (PySem.W.methodObj (.ref f) (.ref x))
  | .ext φ => φ h /\ (∃ o, h.get? a = some o) /\ ∀ h1 h2 : Heap, φ h1 -> (∀ o, h1.get? a = some o -> h2.get? a = some o) -> φ h2
noncomputable def HOk (H : Hp) (h : Heap) : Prop := ∀ a o, H a = some o -> ObjOk P w H h a o
end
section
variable {P : Program} {w : World} {H H' : Hp} {h h' : Heap} {a : Addr} {o : HO}
theorem ObjOk.lt (x : ObjOk P w H h a o) : a < h.objs.size := by
  cases o with
  | lst xs => obtain ⟨_, _, _, _, e⟩ := x; exact Heap.lt_size e
  | tup xs => obtain ⟨_, _, _, p⟩ := x; exact p.lt
  | dK kvs => obtain ⟨_, _, _, _, o, _, _, e, _⟩ := x; exact Heap.lt_size e
  | dT kvs => obtain ⟨_, _, _, _, o, _, _, e, _⟩ := x; exact Heap.lt_size e
  | set S n => obtain ⟨o, _, _, _, e, _⟩ := x; exact Heap.lt_size e
  | ins C dx fs => obtain ⟨_, _, _, e, _⟩ := x; exact Heap.lt_size e
  | own y => obtain ⟨_, e⟩ := x; exact Heap.lt_size e
  | xd fs => obtain ⟨_, ⟨_, _, _, e, _⟩, _⟩ := x; exact Heap.lt_size e
  | rng lo hi => obtain ⟨_, _, _, e⟩ := x; exact Heap.lt_size e
  | frz ob u => obtain ⟨e, _⟩ := x; exact Heap.lt_size e
  | tbl ps => exact Heap.lt_size (show h.get? a = some _ from x)
  | met f y => exact Heap.lt_size (show h.get? a = some _ from x)
  | ext φ => obtain ⟨_, ⟨_, e⟩, _⟩ := x; exact Heap.lt_size e
theorem Paired.mapP {α β : Type} {F G : α -> β -> Prop} : ∀ {l₁ : List α} {l₂ : List β}, Paired F l₁ l₂ -> (∀ a b, F a b -> G a b) -> Paired G l₁ l₂
  | _, _, .nil, _ => .nil
  | _, _, .cons r t, f => .cons (f _ _ r) (Paired.mapP t f)
theorem ObjOk.stay (x : ObjOk P w H h a o) (k : ∀ b u, (b = a \/ H b = some (.own a)) -> h.get? b = some u -> h'.get? b = some u)
    (ho : ∀ b, H b = some (.own a) -> H' b = some (.own a)) (ht : ∀ b xs, H b = some (.tup xs) -> H' b = some (.tup xs)) : ObjOk P w H' h' a o := by
  induction o with
  | lst xs => obtain ⟨z, its, n, r, e⟩ := x; exact ⟨z, its, n, r, k _ _ (.inl rfl) e⟩
  | tup xs => obtain ⟨z, its, r, ob, e, c⟩ := x; exact ⟨z, its, r, ob, k _ _ (.inl rfl) e, c⟩
  | dK kvs => obtain ⟨z, y, vs, r, ob, es, ep, e, c⟩ := x; exact ⟨z, y, vs, r, ob, es, ep, k _ _ (.inl rfl) e, c⟩
  | dT kvs =>
    obtain ⟨z, y, xs, r, ob, es, ep, e, c⟩ := x
    exact ⟨z, y, xs, Paired.mapP r fun p q z => ⟨z.1, ht _ _ z.2.1, z.2.2⟩, ob, es, ep, k _ _ (.inl rfl) e, c⟩
  | set S n => obtain ⟨ob, es, ep, t, e, c⟩ := x; exact ⟨ob, es, ep, t, k _ _ (.inl rfl) e, c⟩
  | ins C dx fs =>
    obtain ⟨d, z, ne, e, mA, ⟨od, es, ep, e2, c⟩, r⟩ := x
    exact ⟨ho _ d, z, ne, k _ _ (.inl rfl) e, mA, ⟨od, es, ep, k _ _ (.inr d) e2, c⟩, r⟩
  | own y => obtain ⟨ob, e⟩ := x; exact ⟨ob, k _ _ (.inl rfl) e⟩
  | xd fs => obtain ⟨mA, ⟨od, es, ep, e, c⟩, r⟩ := x; exact ⟨mA, ⟨od, es, ep, k _ _ (.inl rfl) e, c⟩, r⟩
  | rng lo hi => obtain ⟨t, u, v, e⟩ := x; exact ⟨t, u, v, k _ _ (.inl rfl) e⟩
  | frz ob u ih => obtain ⟨e, q⟩ := x; exact ⟨k _ _ (.inl rfl) e, ih q⟩
  | tbl ps =>
    have e : h.get? a = some { cls := .none, data := .fields ps } := x
    show h'.get? a = some { cls := .none, data := .fields ps }
    exact k a _ (.inl rfl) e
  | met f y =>
    have e : h.get? a = some (PySem.W.methodObj (.ref f) (.ref y)) := x
    show h'.get? a = some (PySem.W.methodObj (.ref f) (.ref y))
    exact k a _ (.inl rfl) e
  | ext φ => obtain ⟨p, ⟨o, e⟩, st⟩ := x; exact ⟨st _ _ p fun o q => k _ _ (.inl rfl) q, ⟨o, k _ _ (.inl rfl) e⟩, st⟩
theorem HOk.lt (x : HOk P w H h) (e : H a = some o) : a < h.objs.size := (x a o e).lt
theorem HOk.fresh (x : HOk P w H h) (e : h.objs.size <= a) : H a = none := by
  cases q : H a with
  | none => rfl
  | some u => exact absurd (Nat.lt_of_lt_of_le (x.lt q) e) (Nat.lt_irrefl _)
theorem HOk.kept (x : HOk P w H h) (k : ∀ b u, h.get? b = some u -> h'.get? b = some u) : HOk P w H h' := fun a o e =>
  (x a o e).stay (fun b u _ q => k b u q) (fun _ q => q) fun _ _ q => q
theorem HOk.laid (x : HOk P w H h) (k : ∀ b u, h.get? b = some u -> h'.get? b = some u) (hp : h.objs.size <= a) (new : ObjOk P w (upd H a o) h' a o) : HOk P w (upd H a o) h' := fun b u e => by
  have hn := x.fresh hp
  by_cases hb : b = a
  · subst hb; rw [upd_same] at e; cases e; exact new
  · rw [upd_ne hb] at e
    exact (x b u e).stay (fun c v _ q => k c v q) (fun c q => by rw [upd_ne (ne_of_none q hn)]; exact q) fun c xs q => by rw [upd_ne (ne_of_none q hn)]; exact q
end
noncomputable def Rd (H : Hp) (a : Addr) (u : HO) : Prop := H a = some u \/ ∃ o, H a = some (.frz o u)
theorem Rd.ok {P : Program} {w : World} {H : Hp} {h : Heap} {a : Addr} {u : HO} (r : Rd H a u) (x : HOk P w H h) : ObjOk P w H h a u := by
  rcases r with r | ⟨o, r⟩
  · exact x a u r
  · obtain ⟨_, q⟩ := x a _ r
    exact q
noncomputable def Mut : Option HO -> Prop
  | some (.lst _) => True
  | some (.dK _) => True
  | some (.dT _) => True
  | some (.set _ _) => True
  | some (.ins _ _ _) => True
  | some (.ext _) => True
  | _ => False
section
variable {P : Program} {w : World} {H : Hp} {h h' : Heap} {x e : Addr} {o' : HO}
theorem HOk.write (ok : HOk P w H h) (mu : Mut (H x)) (he : e = x \/ H e = some (.own x)) (k : ∀ b u, b ≠ e -> h.get? b = some u -> h'.get? b = some u) (heo : ∃ u, h'.get? e = some u)
    (new : ObjOk P w (upd H x o') h' x o') : HOk P w (upd H x o') h' := fun b u q => by
  have nown : ∀ c y, H c = some (.own y) -> c ≠ x := fun c y r z => by subst z; rw [r] at mu; exact mu
  have ntup : ∀ c xs, H c = some (.tup xs) -> c ≠ x := fun c xs r z => by subst z; rw [r] at mu; exact mu
  by_cases hb : b = x
  · subst hb; rw [upd_same] at q; cases q; exact new
  · rw [upd_ne hb] at q
    by_cases hbe : b = e
    · have q' : H b = some (.own x) := by
        rcases he with z | z
        · exact absurd (hbe.trans z) hb
        · rw [hbe]; exact z
      rw [q] at q'; cases q'
      obtain ⟨v, hv⟩ := heo
      exact ⟨v, by rw [hbe]; exact hv⟩
    · refine (ok b u q).stay (fun c v hc r => k c v ?_ r) (fun c r => by rw [upd_ne (nown c b r)]; exact r) fun c xs r => by rw [upd_ne (ntup c xs r)]; exact r
      rcases hc with rfl | hc
      · exact hbe
      · rintro rfl
        rcases he with z | z
        · exact nown c b hc z
        · rw [hc] at z; cases z; exact hb rfl
end
structure Un (fs ex : List Addr) (H H' : Hp) (h h' : Heap) : Prop where
  keep : ∀ b o, h.get? b = some o -> H b = none -> b ∉ fs -> b ∉ ex -> h'.get? b = some o
  slot : ∀ b o, h.get? b = some o -> H b = none -> b ∈ fs -> b ∉ ex -> ∃ sl, h'.get? b = some { o with slots := sl }
  free : ∀ b o, h.get? b = some o -> H b = none -> b ∉ ex -> H' b = none
  there : ∀ b o, h.get? b = some o -> b ∉ ex -> ∃ o', h'.get? b = some o'
  tups : ∀ b xs, H b = some (.tup xs) -> H' b = some (.tup xs)
  frzs : ∀ b o u, H b = some (.frz o u) -> H' b = some (.frz o u)
  tbls : ∀ b ps, H b = some (.tbl ps) -> ∃ more, H' b = some (.tbl (ps ++ more))
section
variable {fs fs' ex ex' : List Addr} {H H1 H2 : Hp} {h h1 h2 h' : Heap} {a x e : Addr} {o : HO}
theorem Un.any (u : Un fs ex H H1 h h1) {b : Addr} {ob : Obj} (q : h.get? b = some ob) (n : H b = none) (hx : b ∉ ex) : ∃ sl, h1.get? b = some { ob with slots := sl } := by
  by_cases hb : b ∈ fs
  · exact u.slot b ob q n hb hx
  · exact ⟨ob.slots, u.keep b ob q n hb hx⟩
theorem Un.kept (k : ∀ b u, h.get? b = some u -> h'.get? b = some u) : Un fs ex H H h h' :=
  ⟨fun b ob q _ _ _ => k b ob q, fun b ob q _ _ _ => ⟨ob.slots, k b ob q⟩, fun _ _ _ n _ => n, fun b ob q _ => ⟨ob, k b ob q⟩, fun _ _ q => q, fun _ _ _ q => q, fun _ ps q => ⟨#[], by rw [q]; simp⟩⟩
theorem Un.refl : Un fs ex H H h h := Un.kept fun _ _ q => q
theorem Un.laid (k : ∀ b u, h.get? b = some u -> h'.get? b = some u) (hp : h.objs.size <= a) (hn : H a = none) : Un fs ex H (upd H a o) h h' where
  keep := fun b u q _ _ _ => k b u q
  slot := fun b u q _ _ _ => ⟨u.slots, k b u q⟩
  free := fun b u q n _ => by rw [upd_ne (Nat.ne_of_lt (Nat.lt_of_lt_of_le (Heap.lt_size q) hp))]; exact n
  there := fun b u q _ => ⟨u, k b u q⟩
  tups := fun b xs q => by rw [upd_ne (ne_of_none q hn)]; exact q
  frzs := fun b u xs q => by rw [upd_ne (ne_of_none q hn)]; exact q
  tbls := fun b ps q => ⟨#[], by rw [upd_ne (ne_of_none q hn), q]; simp⟩
theorem Un.write (mu : Mut (H x)) (he : e = x \/ H e = some (.own x)) (k : ∀ b u, b ≠ e -> h.get? b = some u -> h'.get? b = some u) (heo : ∃ u, h'.get? e = some u) : Un fs ex H (upd H x o) h h' := by
  have hx : ∀ b, H b = none -> b ≠ x := fun b n z => by subst z; rw [n] at mu; exact mu
  have hb : ∀ b, H b = none -> b ≠ e := fun b n z => by
    subst z
    rcases he with r | r
    · exact hx b n r
    · rw [n] at r; cases r
  have hm : ∀ b u, H b = some u -> ¬ Mut (some u) -> b ≠ x := fun b u q nm z => by subst z; rw [q] at mu; exact nm mu
  refine ⟨fun b u q n _ _ => k b u (hb b n) q, fun b u q n _ _ => ⟨u.slots, k b u (hb b n) q⟩, fun b u q n _ => by rw [upd_ne (hx b n)]; exact n, fun b u q _ => ?_,
    fun b xs q => by rw [upd_ne (hm b _ q fun z => z)]; exact q, fun b u xs q => by rw [upd_ne (hm b _ q fun z => z)]; exact q, fun b ps q => ⟨#[], by rw [upd_ne (hm b _ q fun z => z), q]; simp⟩⟩
  by_cases hbe : b = e
  · subst hbe; exact heo
  · exact ⟨u, k b u hbe q⟩
end
noncomputable def trk (h : Heap) (H : Hp) : List Addr := (List.range h.objs.size).filter fun a => (H a).isSome
noncomputable def hidT (h : Heap) (H : Hp) : Heap := PySem.W.hideAll h (trk h H)
theorem hidT_size (h : Heap) (H : Hp) : (hidT h H).objs.size = h.objs.size := PySem.W.hideAll_size _ _
theorem hidT_get {h : Heap} {H : Hp} {b : Addr} {o : Obj} (e : h.get? b = some o) (n : H b = none) : (hidT h H).get? b = some o :=
  PySem.W.hideAll_get _ e fun hm => by
    have q : (H b).isSome = true := (List.mem_filter.mp hm).2
    rw [n] at q; simp at q
theorem of_hidT {h : Heap} {H : Hp} {b : Addr} {o : Obj} (e : (hidT h H).get? b = some o) : h.get? b = some o /\ H b = none := by
  have e' : h.get? b = some o := PySem.W.of_hideAll (trk h H) e
  refine ⟨e', ?_⟩
  cases q : H b with
  | none => rfl
  | some x =>
    have hm : b ∈ trk h H := List.mem_filter.mpr ⟨List.mem_range.mpr (Heap.lt_size e'), by simp [q]⟩
    have z : (hidT h H).get? b = none := PySem.W.hideAll_none (trk h H) hm
    rw [z] at e; cases e
noncomputable def allNews (g h : Heap) (L : Addr) : List (Addr × Obj) := (List.range h.objs.size).filterMap fun a => if a = L \/ (g.get? a).isSome = true then none else (h.get? a).map fun o => (a, o)
noncomputable def rest (g h : Heap) (L d : Addr) : List (Addr × Obj) := (allNews g h L).filter fun p => decide (p.1 ≠ d)
end L2
namespace L2
open PySem PySem.Spec PyProof.Rows
structure Mod (K : PySem.W.Frag) (mg : Str -> Option Value) (base : Heap) : Prop where
  kin : K.In base
  glob : base.Ns mainGlobals mg
  blt : ∃ mb, base.Ns builtinsNs mb /\ ∀ x : Str, x ≠ "__name__" -> mb x = bootBuiltins x
  nolimit : base.NoLimit
structure Cx where
  prog : Program
  w : World
  K : PySem.W.Frag
  mg : Str -> Option Value
  base : Heap
  A : Around
  N : List Str
  s₀ : Shared
  H₀ : Hp
  env : Env
  outer : List Env
  stack : List Env
  ex : List Addr
  fn : Str -> Bool
  calm : Bool
  pn : List (Addr × Obj)
  xe : Value -> Shared -> Prop
noncomputable def frs (l : List Env) : List Addr := l.filterMap (·.frame)
noncomputable abbrev Cx.fs (X : Cx) : List Addr := frs X.outer
noncomputable def Vis (sc : Scope) (x : Str) : Prop := sc.names.lookup x = some .local \/ sc.names.lookup x = some .cell \/ sc.names.lookup x = some .free
noncomputable def Loc (sc : Scope) (x : Str) : Prop := sc.names.lookup x = some .local \/ sc.names.lookup x = some .cell
noncomputable def Look (env : Env) (h : Heap) (m : Str -> Option Value) (x : Str) (u : Value) : Prop :=
  (env.kindOf x = some .local /\ m x = some u) \/ ((env.kindOf x = some .cell \/ env.kindOf x = some .free) /\ ∃ c, env.cells.lookup x = some c /\ h.IsCell c (some u))
structure Cx.Ok (X : Cx) : Prop where
  mod : Mod X.K X.mg X.base
  kind : X.env.scope.kind = .function
  glob : X.env.globals = mainGlobals
  blt : X.env.builtins = builtinsNs
  above : X.s₀.heap.objs.size <= X.env.locals
  inj : ∀ x y c, X.env.cells.lookup x = some c -> X.env.cells.lookup y = some c -> x = y
  has : ∀ x, (X.env.kindOf x = some .cell \/ X.env.kindOf x = some .free) -> ∃ c, X.env.cells.lookup x = some c
  cab : ∀ x c, X.fn x = true -> X.env.cells.lookup x = some c -> X.s₀.heap.objs.size <= c
  hd : X.calm = true -> X.A.handled = none
  frames : X.A.frames = some X.stack
  stk : X.stack = X.outer \/ (X.stack = X.env :: X.outer /\ X.env.frame = some X.env.locals)
  exf : ∀ b ∈ X.ex, b ≠ X.env.locals /\ ∀ x c, X.env.cells.lookup x = some c -> c ≠ b
  bs : ∀ b o, X.base.get? b = some o -> X.s₀.heap.get? b = some o /\ X.H₀ b = none
  bsz : X.base.objs.size <= X.s₀.heap.objs.size
  noex : ∀ b o, X.base.get? b = some o -> b ∉ X.ex
  exfs : ∀ b ∈ X.ex, b ∉ X.fs
  funs : X.s₀.heap.FunFrames X.base X.outer
  frf : ∀ b ∈ X.fs, X.H₀ b = none
structure Inv (X : Cx) (pins : List (Addr × Obj)) (σ : List (Option V)) (H : Hp) (s : Shared) : Prop where
  ok : X.Ok
  os : s.os = X.s₀.os
  bare : AllBare s.gens
  base : Un X.fs X.ex X.H₀ H X.s₀.heap s.heap
  loc : ∃ m, s.heap.Ns X.env.locals m /\ ∀ (i : Nat) (x : Str) (v : V), X.N[i]? = some x -> σ[i]? = some (some v) -> Vis X.env.scope x -> ∃ u, RelV v u /\ Look X.env s.heap m x u
  cell : ∀ x c, X.env.cells.lookup x = some c -> ∃ v, s.heap.IsCell c v
  free : H X.env.locals = none
  freeC : ∀ x c, X.env.cells.lookup x = some c -> H c = none
  pin : ∀ p ∈ X.pn ++ pins, s.heap.get? p.1 = some p.2 /\ H p.1 = none /\ p.1 ≠ X.env.locals /\ p.1 ∉ X.fs /\ ∀ v, p.2.data ≠ .cell v
  hok : HOk X.prog X.w H s.heap
  len : σ.length = X.N.length
section
variable {X : Cx} {pins : List (Addr × Obj)} {σ : List (Option V)} {H H' : Hp} {s : Shared} {h' : Heap}
theorem Cx.Ok.nofr (ok : X.Ok) {b : Addr} {o : Obj} (e : X.base.get? b = some o) : b ∉ X.fs := fun hb => by
  have := (ok.funs.mem hb).1
  rw [e] at this; cases this
theorem Inv.bs (I : Inv X pins σ H s) : ∀ b o, X.base.get? b = some o -> s.heap.get? b = some o /\ H b = none := fun b o e =>
  ⟨I.base.keep b o (I.ok.bs b o e).1 (I.ok.bs b o e).2 (I.ok.nofr e) (I.ok.noex b o e), I.base.free b o (I.ok.bs b o e).1 (I.ok.bs b o e).2 (I.ok.noex b o e)⟩
theorem Inv.bk (I : Inv X pins σ H s) : ∀ b o, X.base.get? b = some o -> s.heap.get? b = some o := fun b o e => (I.bs b o e).1
theorem Inv.mod (I : Inv X pins σ H s) : Mod X.K X.mg X.base := I.ok.mod
theorem Inv.kIn (I : Inv X pins σ H s) : X.K.In s.heap := I.ok.mod.kin.keeps I.bk
theorem Inv.lt (I : Inv X pins σ H s) : X.env.locals < s.heap.objs.size := let ⟨_, hn, _⟩ := I.loc; hn.lt
theorem Inv.sz (I : Inv X pins σ H s) : X.s₀.heap.objs.size <= s.heap.objs.size := Nat.le_trans I.ok.above (Nat.le_of_lt I.lt)
theorem Inv.nofs (I : Inv X pins σ H s) {a : Addr} (h : s.heap.objs.size <= a) : a ∉ X.fs := fun hb => by
  obtain ⟨_, o, ho, _⟩ := I.ok.funs.mem hb
  exact absurd (Nat.lt_of_lt_of_le (Heap.lt_size ho) (Nat.le_trans I.sz h)) (Nat.lt_irrefl _)
theorem Inv.cne (I : Inv X pins σ H s) : ∀ x c, X.env.cells.lookup x = some c -> c ≠ X.env.locals := fun x c e z => by
  obtain ⟨v, o, ho, hd⟩ := I.cell x c e
  obtain ⟨m, ⟨o', es, ep, ho', hd', _⟩, _⟩ := I.loc
  rw [z, ho'] at ho; cases ho; rw [hd'] at hd; cases hd
theorem Inv.funs (I : Inv X pins σ H s) : s.heap.FunFrames X.base X.outer := by
  have all : ∀ (l : List Env), (∀ b ∈ frs l, b ∈ X.fs) -> X.s₀.heap.FunFrames X.base l -> s.heap.FunFrames X.base l := by
    intro l
    induction l with
    | nil => intro _ _; trivial
    | cons env r ih =>
      intro hs hl
      obtain ⟨hk, ⟨L, o, hf, hn, ho, hd⟩, hr⟩ := hl
      have hL : L ∈ X.fs := hs L (by unfold frs; rw [List.filterMap_cons, hf]; exact List.mem_cons_self)
      obtain ⟨sl, e⟩ := I.base.slot L o ho (I.ok.frf L hL) hL fun z => I.ok.exfs L z hL
      exact ⟨hk, ⟨L, _, hf, hn, e, hd⟩, ih (fun b hb => hs b (by unfold frs; rw [List.filterMap_cons, hf]; exact List.mem_cons_of_mem _ hb)) hr⟩
  exact all X.outer (fun _ hb => hb) I.ok.funs
theorem Inv.stack (I : Inv X pins σ H s) : s.heap.FunFrames X.base X.stack := by
  rcases I.ok.stk with e | ⟨e, hf⟩
  · rw [e]; exact I.funs
  · rw [e]
    obtain ⟨m, hn, _⟩ := I.loc
    refine .cons (by rw [I.ok.kind]; decide) hf hn ?_ I.funs
    exact Heap.get?_none_of_le (Nat.le_trans I.ok.bsz I.ok.above)
theorem Inv.stkSub (I : Inv X pins σ H s) : ∀ b ∈ frs X.stack, b ∈ X.env.locals :: X.fs := fun b hb => by
  rcases I.ok.stk with e | ⟨e, hf⟩
  · rw [e] at hb; exact List.mem_cons_of_mem _ hb
  · rw [e] at hb
    unfold frs at hb
    rw [List.filterMap_cons, hf] at hb
    exact hb
theorem Inv.stkFree (I : Inv X pins σ H s) : ∀ b ∈ frs X.stack, H b = none := fun b hb => by
  rcases List.mem_cons.mp (I.stkSub b hb) with e | hb
  · rw [e]; exact I.free
  · obtain ⟨_, o, ho, _⟩ := I.ok.funs.mem hb
    exact I.base.free b o ho (I.ok.frf b hb) fun z => I.ok.exfs b z hb
theorem Inv.step {g' : Array GenState} {t' : Nat} {d' : Drawn} {ch : List Addr} (I : Inv X pins σ H s)
    (hch : ∀ b ∈ ch, (b ∈ X.ex \/ X.s₀.heap.objs.size <= b) /\ b ≠ X.env.locals /\ (∀ x c, X.env.cells.lookup x = some c -> c ≠ b) /\ ∀ p ∈ X.pn ++ pins, p.1 ≠ b)
    (keep : ∀ b o, b ≠ X.env.locals -> b ∉ X.fs -> b ∉ ch -> s.heap.get? b = some o -> H b = none -> h'.get? b = some o)
    (slot : ∀ b o, b ≠ X.env.locals -> b ∈ X.fs -> b ∉ ch -> s.heap.get? b = some o -> H b = none -> ∃ sl, h'.get? b = some { o with slots := sl }) (free : ∀ b o, b ∉ ch -> s.heap.get? b = some o -> H b = none -> H' b = none)
    (there : ∀ b o, b ∉ ch -> s.heap.get? b = some o -> ∃ o', h'.get? b = some o')
    (tups : ∀ b xs, H b = some (.tup xs) -> H' b = some (.tup xs)) (frzs : ∀ b o u, H b = some (.frz o u) -> H' b = some (.frz o u)) (tbls : ∀ b ps, H b = some (.tbl ps) -> ∃ more, H' b = some (.tbl (ps ++ more)))
    (ns : ∀ m, s.heap.Ns X.env.locals m -> h'.Ns X.env.locals m) (hok : HOk X.prog X.w H' h') (hg : AllBare g') :
    Inv X pins σ H' { s with heap := h', gens := g', drawn := d', toks := t' } := by
  have neL : ∀ b o, X.s₀.heap.get? b = some o -> b ≠ X.env.locals := fun b o e => Nat.ne_of_lt (Nat.lt_of_lt_of_le (Heap.lt_size e) I.ok.above)
  have neC : ∀ b o, X.s₀.heap.get? b = some o -> b ∉ X.ex -> b ∉ ch := fun b o e hx hb => by
    rcases (hch b hb).1 with z | z
    · exact hx z
    · exact absurd (Nat.lt_of_lt_of_le (Heap.lt_size e) z) (Nat.lt_irrefl _)
  have cellK : ∀ x c, X.env.cells.lookup x = some c -> ∀ v, s.heap.IsCell c v -> h'.IsCell c v := fun x c e v ⟨o, ho, hd⟩ => by
    have nch : c ∉ ch := fun z => (hch c z).2.2.1 x c e rfl
    by_cases hc : c ∈ X.fs
    · obtain ⟨sl, q⟩ := slot c o (I.cne x c e) hc nch ho (I.freeC x c e)
      exact ⟨_, q, hd⟩
    · exact ⟨o, keep c o (I.cne x c e) hc nch ho (I.freeC x c e), hd⟩
  refine ⟨I.ok, I.os, hg, ⟨fun b o e n hb hx => ?_, fun b o e n hb hx => ?_, fun b o e n hx => ?_, fun b o e hx => ?_, fun b xs e => tups b xs (I.base.tups b xs e), fun b o xs e => frzs b o xs (I.base.frzs b o xs e), fun b ps e => ?_⟩, ?_, fun x c e => ?_, ?_, fun x c e => ?_, fun p hp => ?_, hok, I.len⟩
  · exact keep b o (neL b o e) hb (neC b o e hx) (I.base.keep b o e n hb hx) (I.base.free b o e n hx)
  · obtain ⟨sl, e1⟩ := I.base.slot b o e n hb hx
    obtain ⟨sl', e2⟩ := slot b _ (neL b o e) hb (neC b o e hx) e1 (I.base.free b o e n hx)
    exact ⟨sl', e2⟩
  · obtain ⟨o', e1⟩ := I.base.there b o e hx
    exact free b o' (neC b o e hx) e1 (I.base.free b o e n hx)
  · obtain ⟨o', e1⟩ := I.base.there b o e hx
    exact there b o' (neC b o e hx) e1
  · obtain ⟨m1, e1⟩ := I.base.tbls b ps e
    obtain ⟨m2, e2⟩ := tbls b _ e1
    exact ⟨m1 ++ m2, by rw [e2, Array.append_assoc]⟩
  · obtain ⟨m, hn, hl⟩ := I.loc
    refine ⟨m, ns m hn, fun i x v e1 e2 e3 => ?_⟩
    obtain ⟨u, r, l⟩ := hl i x v e1 e2 e3
    refine ⟨u, r, ?_⟩
    rcases l with l | ⟨k, c, e, z⟩
    · exact .inl l
    · exact .inr ⟨k, c, e, cellK x c e _ z⟩
  · obtain ⟨v, z⟩ := I.cell x c e
    exact ⟨v, cellK x c e v z⟩
  · obtain ⟨m, ⟨o, _, _, ho, _⟩, _⟩ := I.loc
    exact free _ o (fun z => (hch _ z).2.1 rfl) ho I.free
  · obtain ⟨v, o, ho, hd⟩ := I.cell x c e
    exact free c o (fun z => (hch c z).2.2.1 x c e rfl) ho (I.freeC x c e)
  · obtain ⟨e, n, ne, nf, d⟩ := I.pin p hp
    have nch : p.1 ∉ ch := fun z => (hch p.1 z).2.2.2 p hp rfl
    exact ⟨keep p.1 p.2 ne nf nch e n, free p.1 p.2 nch e n, ne, nf, d⟩
theorem Inv.un {t' : Nat} (I : Inv X pins σ H s) (u : Un X.fs [] H H' s.heap h') (hok : HOk X.prog X.w H' h') : Inv X pins σ H' { s with heap := h', toks := t' } := by
  obtain ⟨m, ⟨o, es, ep, ho, r⟩, _⟩ := id I.loc
  obtain ⟨sl, hL⟩ := u.any ho I.free (by simp)
  exact I.step (g' := s.gens) (d' := s.drawn) (ch := []) (fun _ z => nomatch z) (fun b o _ hb _ e n => u.keep b o e n hb (by simp)) (fun b o _ hb _ e n => u.slot b o e n hb (by simp)) (fun b o _ e n => u.free b o e n (by simp)) (fun b o _ e => u.there b o e (by simp)) u.tups u.frzs u.tbls (fun m' hm => by
    obtain ⟨o', es', ep', ho', r'⟩ := hm
    rw [ho] at ho'; cases ho'
    exact ⟨_, es', ep', hL, r'⟩) hok I.bare
theorem Inv.call {g' : Array GenState} {t' : Nat} {d' : Drawn} {ch : List Addr} (I : Inv X pins σ H s) (u : Un (frs X.stack) ch H H' s.heap h') (hok : HOk X.prog X.w H' h') (hg : AllBare g')
    (hch : ∀ b ∈ ch, (b ∈ X.ex \/ X.s₀.heap.objs.size <= b) /\ b ≠ X.env.locals /\ (∀ x c, X.env.cells.lookup x = some c -> c ≠ b) /\ ∀ p ∈ X.pn ++ pins, p.1 ≠ b) :
    Inv X pins σ H' { s with heap := h', gens := g', drawn := d', toks := t' } := by
  obtain ⟨m, ⟨o, es, ep, ho, r⟩, _⟩ := id I.loc
  obtain ⟨sl, hL⟩ := u.any ho I.free fun z => (hch _ z).2.1 rfl
  exact I.step (ch := ch) hch (fun b o hL hb hc e n => u.keep b o e n (fun z => (List.mem_cons.mp (I.stkSub b z)).elim hL hb) hc) (fun b o _ _ hc e n => u.any e n hc) (fun b o hc e n => u.free b o e n hc) (fun b o hc e => u.there b o e hc) u.tups u.frzs u.tbls (fun m' hm => by
    obtain ⟨o', es', ep', ho', r'⟩ := hm
    rw [ho] at ho'; cases ho'
    exact ⟨_, es', ep', hL, r'⟩) hok hg
theorem Inv.turned {t' : Nat} {it : Addr} (I : Inv X pins σ H s) (k : ∀ b o, b ≠ it -> s.heap.get? b = some o -> h'.get? b = some o) (hn : H it = none) (hL : it ≠ X.env.locals)
    (h1 : it ∈ X.ex \/ X.s₀.heap.objs.size <= it) (h2 : ∀ x c, X.env.cells.lookup x = some c -> c ≠ it) (h3 : ∀ p ∈ X.pn ++ pins, p.1 ≠ it) : Inv X pins σ H { s with heap := h', toks := t' } := by
  have nit : ∀ b u, H b = some u -> b ≠ it := fun b u e z => by rw [z, hn] at e; cases e
  refine I.step (g' := s.gens) (d' := s.drawn) (ch := [it]) (fun b hb => ?_) (fun b o _ _ hc e _ => k b o (fun z => hc (by simp [z])) e) (fun b o _ _ hc e _ => ⟨o.slots, k b o (fun z => hc (by simp [z])) e⟩) (fun _ _ _ _ n => n)
    (fun b o hc e => ⟨o, k b o (fun z => hc (by simp [z])) e⟩) (fun _ _ e => e) (fun _ _ _ e => e) (fun b ps e => ⟨#[], by rw [e]; simp⟩) (fun m hm => ?_) (fun b u e => ?_) I.bare
  · have e : b = it := by simpa using hb
    subst e
    exact ⟨h1, hL, h2, h3⟩
  · obtain ⟨o, es, ep, ho, r⟩ := hm
    exact ⟨o, es, ep, k _ o (Ne.symm hL) ho, r⟩
  · refine (I.hok b u e).stay (fun c v hc q => k c v ?_ q) (fun _ q => q) fun _ _ q => q
    rcases hc with z | z
    · rw [z]; exact nit b u e
    · exact nit c _ z
theorem Inv.tok (I : Inv X pins σ H s) (t : Nat) : Inv X pins σ H { s with toks := t } := I.un (h' := s.heap) (t' := t) Un.refl I.hok
theorem Inv.kept {t' : Nat} (I : Inv X pins σ H s) (k : ∀ b u, s.heap.get? b = some u -> h'.get? b = some u) : Inv X pins σ H { s with heap := h', toks := t' } := I.un (Un.kept k) (I.hok.kept k)
theorem Inv.laid {a : Addr} {o : HO} {t' : Nat} (I : Inv X pins σ H s) (k : ∀ b u, s.heap.get? b = some u -> h'.get? b = some u) (hp : s.heap.objs.size <= a) (new : ObjOk X.prog X.w (upd H a o) h' a o) :
    Inv X pins σ (upd H a o) { s with heap := h', toks := t' } := I.un (Un.laid k hp (I.hok.fresh hp)) (I.hok.laid k hp new)
theorem Inv.write {x e : Addr} {o : HO} {t' : Nat} (I : Inv X pins σ H s) (mu : Mut (H x)) (he : e = x \/ H e = some (.own x)) (k : ∀ b u, b ≠ e -> s.heap.get? b = some u -> h'.get? b = some u) (heo : ∃ u, h'.get? e = some u)
    (new : ObjOk X.prog X.w (upd H x o) h' x o) : Inv X pins σ (upd H x o) { s with heap := h', toks := t' } := I.un (Un.write mu he k heo) (I.hok.write mu he k heo new)
theorem Inv.weak {σ' : List (Option V)} (I : Inv X pins σ H s) (hl : σ'.length = σ.length) (w : ∀ (i : Nat) v, σ'[i]? = some (some v) -> σ[i]? = some (some v)) : Inv X pins σ' H s :=
  ⟨I.ok, I.os, I.bare, I.base, let ⟨m, hn, hl'⟩ := I.loc; ⟨m, hn, fun i x v e1 e2 e3 => hl' i x v e1 (w i v e2) e3⟩, I.cell, I.free, I.freeC, I.pin, I.hok, hl.trans I.len⟩
theorem Inv.pins_of {pins' : List (Addr × Obj)} (I : Inv X pins σ H s) (h : ∀ p ∈ pins', s.heap.get? p.1 = some p.2 /\ H p.1 = none /\ p.1 ≠ X.env.locals /\ p.1 ∉ X.fs /\ ∀ v, p.2.data ≠ .cell v) : Inv X pins' σ H s :=
  ⟨I.ok, I.os, I.bare, I.base, I.loc, I.cell, I.free, I.freeC, fun p hp => (List.mem_append.mp hp).elim (fun z => I.pin p (List.mem_append_left _ z)) (h p), I.hok, I.len⟩
theorem nodup_ix {N : List Str} (hN : N.Nodup) {i j : Nat} {x : Str} (a : N[i]? = some x) (b : N[j]? = some x) : i = j := by
  obtain ⟨h1, e1⟩ := List.getElem?_eq_some_iff.mp a
  obtain ⟨h2, e2⟩ := List.getElem?_eq_some_iff.mp b
  exact (List.getElem_inj hN).mp (e1.trans e2.symm)
theorem store_ok2 {M : Model} {A : Around} {E : Value -> Shared -> Prop} {i : Nat} {x : Str} {v : V} {u : Value} {Q : Unit -> Shared -> Prop} (I : Inv X pins σ H s) (hN : X.N.Nodup) (hi : X.N[i]? = some x) (hx : Loc X.env.scope x) (r : RelV v u)
    (h : ∀ s', Inv X pins (σ.set i (some v)) H s' -> (∃ a, Heap.SameBut a s.heap s'.heap /\ (a = X.env.locals \/ X.env.cells.lookup x = some a)) -> Q () s') (hf : X.fn x = true \/ X.env.scope.names.lookup x = some .local := by first | exact .inl rfl | exact .inr rfl | assumption) : wpAny M A (storeName X.env x u) Q E s := by
  obtain ⟨m, hn, hl⟩ := id I.loc
  have hcls : (X.env.scope.kind == .class || (X.env.scope.kind == .module && X.env.locals != X.env.globals)) = false := by rw [I.ok.kind]; rfl
  have hiσ : i < σ.length := by rw [I.len]; exact (List.getElem?_eq_some_iff.mp hi).1
  have cne := I.cne
  have tracked : ∀ {a : Addr} {h' : Heap}, (∃ o, s.heap.get? a = some o /\ H a = none) -> Heap.SameBut a s.heap h' -> HOk X.prog X.w H h' := fun {a h'} ha hs b ob e => by
    obtain ⟨_, _, hfree⟩ := ha
    refine (I.hok b ob e).stay (fun c w' hc q => (hs.2 c ?_).trans q) (fun _ q => q) fun _ _ q => q
    rintro rfl
    rcases hc with rfl | hc
    · rw [hfree] at e; cases e
    · rw [hfree] at hc; cases hc
  rcases hx with hk | hk
  · refine wpAny_storeName_local hk hn (fun h' hn' hs => ?_) hcls
    obtain ⟨oL, _, _, hoL, _⟩ := id hn
    refine h _ ⟨I.ok, I.os, I.bare, ⟨fun b o e n hb hx => ?_, fun b o e n hb hx => ?_, I.base.free, fun b o e hx => ?_, I.base.tups, I.base.frzs, I.base.tbls⟩, ⟨_, hn', fun j y v' e1 e2 e3 => ?_⟩, fun y c e => ?_, I.free, I.freeC, fun p hp => ?_, tracked ⟨oL, hoL, I.free⟩ hs, by simpa using I.len⟩ ⟨_, hs, .inl rfl⟩
    · exact (hs.2 b (Nat.ne_of_lt (Nat.lt_of_lt_of_le (Heap.lt_size e) I.ok.above))).trans (I.base.keep b o e n hb hx)
    · obtain ⟨sl, e1⟩ := I.base.slot b o e n hb hx
      exact ⟨sl, (hs.2 b (Nat.ne_of_lt (Nat.lt_of_lt_of_le (Heap.lt_size e) I.ok.above))).trans e1⟩
    · obtain ⟨o', e1⟩ := I.base.there b o e hx
      exact ⟨o', (hs.2 b (Nat.ne_of_lt (Nat.lt_of_lt_of_le (Heap.lt_size e) I.ok.above))).trans e1⟩
    · by_cases hj : j = i
      · subst hj
        rw [hi] at e1; cases e1
        rw [List.getElem?_set_self hiσ] at e2
        cases e2
        exact ⟨u, r, .inl ⟨hk, by simp⟩⟩
      · rw [List.getElem?_set_ne (Ne.symm hj)] at e2
        obtain ⟨u', r', q⟩ := hl j y v' e1 e2 e3
        refine ⟨u', r', ?_⟩
        rcases q with ⟨k, e⟩ | ⟨k, c, e, z⟩
        · refine .inl ⟨k, ?_⟩
          have : y ≠ x := fun e => hj (nodup_ix hN e1 (e ▸ hi))
          simp [this, e]
        · exact .inr ⟨k, c, e, z.sameBut hs (cne y c e)⟩
    · obtain ⟨w', z⟩ := I.cell y c e
      exact ⟨w', z.sameBut hs (cne y c e)⟩
    · obtain ⟨e, n, ne, nf, d⟩ := I.pin p hp
      exact ⟨(hs.2 p.1 ne).trans e, n, ne, nf, d⟩
  · have hfn : X.fn x = true := by
      rcases hf with z | z
      · exact z
      · rw [z] at hk; cases hk
    obtain ⟨c, hc⟩ := I.ok.has x (.inl hk)
    obtain ⟨w', z⟩ := I.cell x c hc
    refine wpAny_storeName_cell I.ok.kind hk hc z (fun h' hc' hs => ?_)
    obtain ⟨oc, hoc, hocd⟩ := id z
    refine h { s with heap := h' } ⟨I.ok, I.os, I.bare, ⟨fun b o e n hb hx => ?_, fun b o e n hb hx => ?_, I.base.free, fun b o e hx => ?_, I.base.tups, I.base.frzs, I.base.tbls⟩, ⟨m, hn.sameBut hs (Ne.symm (cne x c hc)), fun j y v' e1 e2 e3 => ?_⟩, fun y c' e => ?_, I.free, I.freeC, fun p hp => ?_, tracked ⟨oc, hoc, I.freeC x c hc⟩ hs, by simpa using I.len⟩ ⟨c, hs, .inr hc⟩
    · exact (hs.2 b (Nat.ne_of_lt (Nat.lt_of_lt_of_le (Heap.lt_size e) (I.ok.cab x c hfn hc)))).trans (I.base.keep b o e n hb hx)
    · obtain ⟨sl, e1⟩ := I.base.slot b o e n hb hx
      exact ⟨sl, (hs.2 b (Nat.ne_of_lt (Nat.lt_of_lt_of_le (Heap.lt_size e) (I.ok.cab x c hfn hc)))).trans e1⟩
    · obtain ⟨o', e1⟩ := I.base.there b o e hx
      exact ⟨o', (hs.2 b (Nat.ne_of_lt (Nat.lt_of_lt_of_le (Heap.lt_size e) (I.ok.cab x c hfn hc)))).trans e1⟩
    · by_cases hj : j = i
      · subst hj
        rw [hi] at e1; cases e1
        rw [List.getElem?_set_self hiσ] at e2
        cases e2
        exact ⟨u, r, .inr ⟨.inl hk, c, hc, hc'⟩⟩
      · rw [List.getElem?_set_ne (Ne.symm hj)] at e2
        obtain ⟨u', r', q⟩ := hl j y v' e1 e2 e3
        refine ⟨u', r', ?_⟩
        rcases q with q | ⟨k, c', e, z'⟩
        · exact .inl q
        · refine .inr ⟨k, c', e, z'.sameBut hs ?_⟩
          rintro rfl
          exact hj (nodup_ix hN e1 (I.ok.inj _ _ _ e hc ▸ hi))
    · by_cases hcc : c' = c
      · subst hcc; exact ⟨_, hc'⟩
      · obtain ⟨w2, z2⟩ := I.cell y c' e
        exact ⟨w2, z2.sameBut hs hcc⟩
    · obtain ⟨e, n, ne, nf, d⟩ := I.pin p hp
      refine ⟨(hs.2 p.1 ?_).trans e, n, ne, nf, d⟩
      intro q
      rw [q, hoc] at e
      have q' : oc = p.2 := Option.some.inj e
      exact d w' (by rw [<- q']; exact hocd)
theorem store_ok {M : Model} {A : Around} {E : Value -> Shared -> Prop} {i : Nat} {x : Str} {v : V} {u : Value} {Q : Unit -> Shared -> Prop} (I : Inv X pins σ H s) (hN : X.N.Nodup) (hi : X.N[i]? = some x) (hx : Loc X.env.scope x) (r : RelV v u)
    (h : ∀ s', Inv X pins (σ.set i (some v)) H s' -> Q () s') (hf : X.fn x = true \/ X.env.scope.names.lookup x = some .local := by first | exact .inl rfl | exact .inr rfl | assumption) : wpAny M A (storeName X.env x u) Q E s :=
  store_ok2 I hN hi hx r (fun s' I' _ => h s' I') hf
theorem Inv.call' {s' : Shared} {ch : List Addr} (I : Inv X pins σ H s) (ho : s'.os = s.os) (u : Un (frs X.stack) ch H H' s.heap s'.heap) (hok : HOk X.prog X.w H' s'.heap) (hg : AllBare s'.gens)
    (hch : ∀ b ∈ ch, (b ∈ X.ex \/ X.s₀.heap.objs.size <= b) /\ b ≠ X.env.locals /\ (∀ x c, X.env.cells.lookup x = some c -> c ≠ b) /\ ∀ p ∈ X.pn ++ pins, p.1 ≠ b) : Inv X pins σ H' s' := by
  obtain ⟨h', g', d', t', o'⟩ := s'
  have e : o' = s.os := ho
  subst e
  exact I.call (g' := g') (t' := t') (d' := d') u hok hg hch
end
noncomputable abbrev XK := Value -> Option Addr -> Hp -> Prop
noncomputable abbrev St := List (Option V)
noncomputable abbrev VK := V -> Hp -> Prop
noncomputable abbrev TE := St -> Hp -> VK -> Prop
noncomputable abbrev TT := St -> Hp -> (Bool -> Hp -> Prop) -> Prop
noncomputable abbrev TA := St -> Hp -> (List V -> Hp -> Prop) -> Prop
structure Ends where
  nx : St -> Hp -> Prop
  rt : VK
  bk : St -> Hp -> Prop := fun _ _ => False
  ct : St -> Hp -> Prop := fun _ _ => False
noncomputable abbrev TS := Ends -> St -> Hp -> Prop
noncomputable def EP (X : Cx) (pins : List (Addr × Obj)) (σ : St) (Q : VK) (u : Value) (s' : Shared) : Prop := ∃ v H', Inv X pins σ H' s' /\ RelV v u /\ Q v H'
noncomputable def TP (X : Cx) (pins : List (Addr × Obj)) (σ : St) (Q : Bool -> Hp -> Prop) (b : Bool) (s' : Shared) : Prop := ∃ H', Inv X pins σ H' s' /\ Q b H'
noncomputable def AP (X : Cx) (pins : List (Addr × Obj)) (σ : St) (Q : List V -> Hp -> Prop) (us : List Value) (s' : Shared) : Prop := ∃ vs H', Inv X pins σ H' s' /\ Vals vs us /\ Q vs H'
noncomputable def SP (X : Cx) (pins : List (Addr × Obj)) (D : Ends) (f : Flow) (s' : Shared) : Prop :=
  match f with
  | .next => ∃ σ' H', Inv X pins σ' H' s' /\ D.nx σ' H'
  | .brk => ∃ σ' H', Inv X pins σ' H' s' /\ D.bk σ' H'
  | .cont => ∃ σ' H', Inv X pins σ' H' s' /\ D.ct σ' H'
  | .ret u => ∃ v σ' H', Inv X pins σ' H' s' /\ RelV v u /\ D.rt v H'
noncomputable def PE (X : Cx) (e : Expr) (t : TE) : Prop :=
  ∀ (pins : List (Addr × Obj)) (s : Shared) (σ : St) (H : Hp) (Q : VK), Inv X pins σ H s -> t σ H Q -> wpAny (model X.prog X.w) X.A (eval e X.env) (EP X pins σ Q) X.xe s
noncomputable def PT (X : Cx) (e : Expr) (t : TT) : Prop :=
  ∀ (pins : List (Addr × Obj)) (s : Shared) (σ : St) (H : Hp) (Q : Bool -> Hp -> Prop), Inv X pins σ H s -> t σ H Q -> wpAny (model X.prog X.w) X.A (isTrue e X.env (eval e X.env)) (TP X pins σ Q) X.xe s
noncomputable def PA (X : Cx) (es : List Expr) (t : TA) : Prop :=
  ∀ (pos : Pos) (pins : List (Addr × Obj)) (s : Shared) (σ : St) (H : Hp) (Q : List V -> Hp -> Prop), Inv X pins σ H s -> t σ H Q -> wpAny (model X.prog X.w) X.A (spliced (backTo pos (starEach es X.env))) (AP X pins σ Q) X.xe s
noncomputable def PS (X : Cx) (st : Stmt) (t : TS) : Prop :=
  ∀ (pins : List (Addr × Obj)) (s : Shared) (σ : St) (H : Hp) (D : Ends), Inv X pins σ H s -> t D σ H -> wpAny (model X.prog X.w) X.A (exec st X.env) (SP X pins D) X.xe s
noncomputable def PSs (X : Cx) (st : List Stmt) (t : TS) : Prop :=
  ∀ (pins : List (Addr × Obj)) (s : Shared) (σ : St) (H : Hp) (D : Ends), Inv X pins σ H s -> t D σ H -> wpAny (model X.prog X.w) X.A (execs st X.env) (SP X pins D) X.xe s
theorem thn {α : Type} {t : Sem α} {Q Q' : α -> Shared -> Prop} {M : Model} {A : Around} {E : Value -> Shared -> Prop} {s : Shared} (h : wpAny M A t Q E s) (hQ : ∀ a s, Q a s -> Q' a s) : wpAny M A t Q' E s := wpAny_mono h hQ fun _ _ x => x
end L2
namespace L2
open PySem PySem.Spec PyProof.Rows
section
variable {X : Cx}
noncomputable def tVar (i : Nat) : TE := fun σ H Q => ∃ v, σ[i]? = some (some v) /\ Q v H
noncomputable def tC (v : V) : TE := fun _ H Q => Q v H
theorem pe_var {i : Nat} {x : Str} {pos : Pos} (hN : X.N[i]? = some x) (hv : Vis X.env.scope x) (hd : (x == ("__debug__" : Str)) = false := by decide) (hcd : (x == ("__classdict__" : Str)) = false := by decide) : PE X (.Name x pos) (tVar i) := by
  intro pins s σ H Q I h
  obtain ⟨v, e, h⟩ := h
  obtain ⟨m, hn, hl⟩ := I.loc
  obtain ⟨u, r, l⟩ := hl i x v hN e hv
  have fin : EP X pins σ Q u s := ⟨v, H, I, r, h⟩
  rcases l with ⟨hk, hm⟩ | ⟨hk, c, hc, hcell⟩
  · exact wpAny_Name (wpAny_loadName_local I.ok.kind hk hn hm fin) hd
  · rcases hk with hk | hk
    · exact wpAny_Name (wpAny_loadName_cell I.ok.kind hk hc hcell fin) hd
    · exact wpAny_Name (wpAny_loadName_free I.ok.kind hk hc hcell fin hcd) hd
theorem pe_int {i j pos} : PE X (.Constant (.int i) j pos) (tC (.int i)) := fun _ _ _ H _ I h => wpAny_Constant_int ⟨.int i, H, I.tok _, ⟨_, rfl⟩, h⟩
theorem pe_bl {b j pos} : PE X (.Constant (.bool b) j pos) (tC (.bl b)) := fun _ _ _ H _ I h => Constant_bool ⟨.bl b, H, I, rfl, h⟩
theorem pe_non {j pos} : PE X (.Constant .none j pos) (tC .non) := fun _ _ _ H _ I h => Constant_none ⟨.non, H, I, rfl, h⟩
theorem pe_str {x j pos} : PE X (.Constant (.str x) j pos) (tC (.str x)) := fun _ _ _ H _ I h => Calls.Constant_str ⟨.str x, H, I.tok _, ⟨_, rfl⟩, h⟩
noncomputable def Gl (X : Cx) (x : Str) : Prop := X.env.kindOf x = some .globalImplicit
theorem ld_glob {E : Value -> Shared -> Prop} {pins : List (Addr × Obj)} {s : Shared} {σ : St} {H : Hp} {x : Str} {u : Value} {pos : Pos} {Q : Value -> Shared -> Prop} (I : Inv X pins σ H s) (hg : Gl X x) (hm : X.mg x = some u) (h : Q u s)
    (hd : (x == ("__debug__" : Str)) = false := by decide) : wpAny (model X.prog X.w) X.A (eval (.Name x pos) X.env) Q E s :=
  Calls.Name_function_global I.ok.kind hg (Calls.loadGlobal_global (by rw [I.ok.glob]; exact I.mod.glob.keeps I.bk) hm h) hd
theorem ld_blt {E : Value -> Shared -> Prop} {pins : List (Addr × Obj)} {s : Shared} {σ : St} {H : Hp} {x : Str} {u : Value} {pos : Pos} {Q : Value -> Shared -> Prop} (I : Inv X pins σ H s) (hg : Gl X x) (hm : X.mg x = none) (hv : bootBuiltins x = some u) (h : Q u s)
    (hn : x ≠ "__name__" := by decide) (hd : (x == ("__debug__" : Str)) = false := by decide) : wpAny (model X.prog X.w) X.A (eval (.Name x pos) X.env) Q E s := by
  obtain ⟨mb, h1, h2⟩ := I.mod.blt
  exact Calls.Name_function_global I.ok.kind hg (Calls.loadGlobal_builtin (by rw [I.ok.glob]; exact I.mod.glob.keeps I.bk) hm (by rw [I.ok.blt]; exact h1.keeps I.bk) ((h2 x hn).trans hv) h) hd
variable {a b : Expr} {ta tb : TE} {pos : Pos}
noncomputable def tB (t : TE) : TT := fun σ H Q => t σ H fun x H1 => ∃ c, x = .bl c /\ Q c H1
theorem pt_val {e : Expr} {t : TE} (h : PE X e t) (he : ∀ whole, isTrue e X.env whole = (do let v <- whole; standAt e.pos; holding [v] (truthy v)) := by intro _; rfl) : PT X e (tB t) := by
  intro pins s σ H Q I hw
  refine isTrue_plain (thn (h pins s σ H _ I hw) fun v s1 ⟨x, H1, I1, r1, q1⟩ => ?_) (he _)
  obtain ⟨d, rfl, q⟩ := q1
  cases r1
  exact wpAny_truthy_bool ⟨H1, I1, q⟩
variable {tA tB' : TT} {rest : List Expr}
end
end L2
namespace L2
open PySem PySem.Spec PyProof.Rows
noncomputable def SqL (K : PySem.W.Frag) (H : Hp) (a : Addr) (xs : List V) : Prop :=
  Rd H a (.lst xs) \/
    ∃ (o : Obj) (its : Array Value) (n : Nat), K.lookup a = some o /\ o.cls = .type "list" /\ o.dict = none /\ o.data = .seq its n /\ its.size <= sizeLine /\ Vals xs its.toList
noncomputable def SqT (K : PySem.W.Frag) (H : Hp) (a : Addr) (xs : List V) : Prop :=
  Rd H a (.tup xs) \/
    ∃ (o : Obj) (its : Array Value) (n : Nat), K.lookup a = some o /\ o.cls = .type "tuple" /\ o.data = .seq its n /\ its.size <= sizeLine /\ Vals xs its.toList
noncomputable def absV : Value -> Option V
  | .none => some .non
  | .bool b => some (.bl b)
  | .int i _ => some (.int i)
  | .str x _ => some (.str x)
  | .bytes b _ => some (.byt b)
  | .float b _ => some (.flt b)
  | .ref a => some (.ref a)
  | .type n => some (.ty n)
  | _ => none
theorem RelV.abs {x : V} {u : Value} (r : RelV x u) : absV u = some x := by
  cases x with
  | non => cases r; rfl
  | bl _ => cases r; rfl
  | int _ => obtain ⟨t, rfl⟩ := r; rfl
  | str _ => obtain ⟨t, rfl⟩ := r; rfl
  | byt _ => obtain ⟨t, rfl⟩ := r; rfl
  | flt _ => obtain ⟨t, rfl⟩ := r; rfl
  | ref _ => cases r; rfl
  | ty _ => cases r; rfl
theorem RelV.inj {x y : V} {u : Value} (r : RelV x u) (q : RelV y u) : x = y := Option.some.inj (r.abs.symm.trans q.abs)
theorem Vals.inj : ∀ {xs ys : List V} {us : List Value}, Vals xs us -> Vals ys us -> xs = ys
  | _, _, _, .nil, .nil => rfl
  | _, _, _, .cons r t, .cons r' t' => by rw [r.inj r', Vals.inj t t']
section
variable {X : Cx} {pins : List (Addr × Obj)} {σ : St} {H : Hp} {s : Shared} {a : Addr} {xs ys : List V}
theorem SqL.of {K : PySem.W.Frag} (h : H a = some (.lst xs)) : SqL K H a xs := .inl (.inl h)
theorem SqT.of {K : PySem.W.Frag} (h : H a = some (.tup xs)) : SqT K H a xs := .inl (.inl h)
theorem Inv.list (I : Inv X pins σ H s) (h : SqL X.K H a xs) : ∃ its : List Value, Vals xs its /\ PlainL s.heap a its.toArray /\ xs.length <= sizeLine := by
  rcases h with h | ⟨o, its, n, hk, hc, hd, hs, hz, r⟩
  · obtain ⟨z, its, n, r, e⟩ := h.ok I.hok
    exact ⟨its, r, ⟨_, n, e, rfl, rfl, rfl⟩, z⟩
  · refine ⟨its.toList, r, ⟨o, n, I.kIn a o hk, hc, hd, by simpa using hs⟩, ?_⟩
    have e := r.length
    simp only [Array.length_toList] at e
    omega
theorem Inv.tuple (I : Inv X pins σ H s) (h : SqT X.K H a xs) : ∃ its : List Value, Vals xs its /\ IsTup s.heap a its.toArray /\ xs.length <= sizeLine := by
  rcases h with h | ⟨o, its, n, hk, hc, hs, hz, r⟩
  · obtain ⟨z, its, r, p⟩ := h.ok I.hok
    exact ⟨its, r, p, z⟩
  · refine ⟨its.toList, r, ⟨o, I.kIn a o hk, hc, n, by simpa using hs⟩, ?_⟩
    have e := r.length
    simp only [Array.length_toList] at e
    omega
theorem Inv.list_inj (I : Inv X pins σ H s) (h : SqL X.K H a xs) (h' : SqL X.K H a ys) : xs = ys := by
  obtain ⟨its, r, ⟨o, n, e, _, _, d⟩, _⟩ := I.list h
  obtain ⟨its', r', ⟨o', n', e', _, _, d'⟩, _⟩ := I.list h'
  rw [e] at e'; cases e'
  rw [d] at d'
  injection d' with d1 _
  have : its = its' := by simpa using congrArg Array.toList d1
  subst this
  exact r.inj r'
theorem Inv.tuple_inj (I : Inv X pins σ H s) (h : SqT X.K H a xs) (h' : SqT X.K H a ys) : xs = ys := by
  obtain ⟨its, r, ⟨o, e, _, n, d⟩, _⟩ := I.tuple h
  obtain ⟨its', r', ⟨o', e', _, n', d'⟩, _⟩ := I.tuple h'
  rw [e] at e'; cases e'
  rw [d] at d'
  injection d' with d1 _
  have : its = its' := by simpa using congrArg Array.toList d1
  subst this
  exact r.inj r'
end
noncomputable abbrev Cx.wish (X : Cx) (E : Value -> Shared -> Prop) : Cx := { X with xe := E }
noncomputable abbrev Cx.nox (X : Cx) : Cx := X.wish fun _ _ => False
theorem Cx.Ok.wish {X : Cx} (ok : X.Ok) (E : Value -> Shared -> Prop) : (X.wish E).Ok :=
  ⟨ok.mod, ok.kind, ok.glob, ok.blt, ok.above, ok.inj, ok.has, ok.cab, ok.hd, ok.frames, ok.stk, ok.exf, ok.bs, ok.bsz, ok.noex, ok.exfs, ok.funs, ok.frf⟩
theorem Cx.Ok.unwish {X : Cx} {E : Value -> Shared -> Prop} (ok : (X.wish E).Ok) : X.Ok :=
  ⟨ok.mod, ok.kind, ok.glob, ok.blt, ok.above, ok.inj, ok.has, ok.cab, ok.hd, ok.frames, ok.stk, ok.exf, ok.bs, ok.bsz, ok.noex, ok.exfs, ok.funs, ok.frf⟩
section
variable {X : Cx} {pins : List (Addr × Obj)} {σ : St} {H : Hp} {s : Shared} {E : Value -> Shared -> Prop}
theorem Inv.wish (I : Inv X pins σ H s) (E : Value -> Shared -> Prop) : Inv (X.wish E) pins σ H s := ⟨I.ok.wish E, I.os, I.bare, I.base, I.loc, I.cell, I.free, I.freeC, I.pin, I.hok, I.len⟩
theorem Inv.unwish (I : Inv (X.wish E) pins σ H s) : Inv X pins σ H s := ⟨I.ok.unwish, I.os, I.bare, I.base, I.loc, I.cell, I.free, I.freeC, I.pin, I.hok, I.len⟩
theorem SP.unwish {D : Ends} {f : Flow} {s' : Shared} (h : SP (X.wish E) pins D f s') : SP X pins D f s' := by
  cases f with
  | next => obtain ⟨σ', H', I, q⟩ := h; exact ⟨σ', H', I.unwish, q⟩
  | brk => obtain ⟨σ', H', I, q⟩ := h; exact ⟨σ', H', I.unwish, q⟩
  | cont => obtain ⟨σ', H', I, q⟩ := h; exact ⟨σ', H', I.unwish, q⟩
  | ret u => obtain ⟨v, σ', H', I, r, q⟩ := h; exact ⟨v, σ', H', I.unwish, r, q⟩
theorem PSs.nox {st : List Stmt} {t : TS} (h : PSs X.nox st t) : PSs X st t := fun pins s σ H D I hw =>
  wpAny_mono (h pins s σ H D (I.wish _) hw) (fun _ _ q => q.unwish) fun _ _ z => False.elim z
end
section
variable {X : Cx} {st : Stmt} {rest : List Stmt} {t u : TS} {e : Expr} {te : TE} {pos : Pos}
noncomputable def tNext : TS := fun D σ H => D.nx σ H
noncomputable def tSeq (t u : TS) : TS := fun D σ H => t { D with nx := u D } σ H
theorem pss_nil : PSs X [] tNext := fun _ _ σ H _ I h => wpAny_execs_nil ⟨σ, H, I, h⟩
theorem pss_cons (h1 : PS X st t) (h2 : PSs X rest u) : PSs X (st :: rest) (tSeq t u) := by
  intro pins s σ H D I h
  refine wpAny_execs_cons (thn (h1 pins s σ H { D with nx := u D } I h) fun f s1 q => ?_)
  cases f with
  | next =>
    obtain ⟨σ', H', I', q⟩ := q
    exact h2 pins s1 σ' H' D I' q
  | ret v => exact q
  | brk => exact q
  | cont => exact q
theorem pss_one (h1 : PS X st t) : PSs X [st] t := by
  intro pins s σ H D I h
  refine wpAny_execs_cons (thn (h1 pins s σ H D I h) fun f s1 q => ?_)
  cases f with
  | next => exact wpAny_execs_nil q
  | ret v => exact q
  | brk => exact q
  | cont => exact q
theorem Inv.quiet {pins : List (Addr × Obj)} {σ : St} {H : Hp} {s : Shared} (I : Inv X pins σ H s) : interactive X.env = false := by simp [interactive, I.ok.kind]
noncomputable def tDrop (te : TE) : TS := fun D σ H => te σ H fun _ H1 => D.nx σ H1
theorem ps_expr (he : PE X e te) (hs : swapsWith e none pos.line X.env = pure false := by rfl) : PS X (.Expr e pos) (tDrop te) := by
  intro pins s σ H D I h
  exact wpAny_Expr_any (thn (he pins s σ H _ I h) fun v s1 ⟨x, H1, I1, r1, q1⟩ => ⟨σ, H1, I1, q1⟩) I.quiet hs
noncomputable def tRet (te : TE) : TS := fun D σ H => te σ H D.rt
theorem ps_ret (he : PE X e te) : PS X (.Return (some e) pos) (tRet te) := by
  intro pins s σ H D I h
  exact wpAny_Return_some (thn (he pins s σ H _ I h) fun v s1 ⟨x, H1, I1, r1, q1⟩ => ⟨x, σ, H1, I1, r1, q1⟩)
noncomputable def tIfS (c : TT) (t u : TS) : TS := fun D σ H => c σ H fun b H1 => if b = true then t D σ H1 else u D σ H1
theorem ps_if {c : Expr} {a b : List Stmt} {tc : TT} (hc : PT X c tc) (ha : PSs X a t) (hb : PSs X b u) : PS X (.If c a b pos) (tIfS tc t u) := by
  intro pins s σ H D I h
  refine wpAny_If (thn (hc pins s σ H _ I h) fun d s1 ⟨H1, I1, q1⟩ => ?_)
  cases d with
  | true => exact ha pins s1 σ H1 D I1 q1
  | false => exact hb pins s1 σ H1 D I1 q1
noncomputable def tNever : TS := fun _ _ _ => False
theorem ps_never : PS X st tNever := fun _ _ _ _ _ _ h => h.elim
end
noncomputable abbrev TG := V -> St -> Hp -> (St -> Hp -> Prop) -> Prop
noncomputable abbrev TGs := List V -> St -> Hp -> (St -> Hp -> Prop) -> Prop
noncomputable def PG (X : Cx) (target : Expr) (t : TG) : Prop :=
  ∀ (pins : List (Addr × Obj)) (s : Shared) (σ : St) (H : Hp) (v : V) (u : Value) (Q : St -> Hp -> Prop), Inv X pins σ H s -> RelV v u -> t v σ H Q ->
    wpAny (model X.prog X.w) X.A (assign target X.env u) (fun _ s' => ∃ σ' H', Inv X pins σ' H' s' /\ Q σ' H') X.xe s
noncomputable def PGs (X : Cx) (ts : List Expr) (t : TGs) : Prop :=
  ∀ (pins : List (Addr × Obj)) (s : Shared) (σ : St) (H : Hp) (vs : List V) (us : List Value) (Q : St -> Hp -> Prop), Inv X pins σ H s -> Vals vs us -> t vs σ H Q ->
    wpAny (model X.prog X.w) X.A (assignInOrder ((assignEach ts X.env).map (·.2)) us) (fun _ s' => ∃ σ' H', Inv X pins σ' H' s' /\ Q σ' H') X.xe s
noncomputable abbrev TSet := V -> V -> V -> Hp -> (Hp -> Prop) -> Prop
noncomputable def PSet (X : Cx) (t : TSet) : Prop :=
  ∀ (pins : List (Addr × Obj)) (s : Shared) (σ : St) (H : Hp) (o i v : V) (ov iv u : Value) (Q : Hp -> Prop), Inv X pins σ H s -> RelV o ov -> RelV i iv -> RelV v u -> t o i v H Q ->
    wpAny (model X.prog X.w) X.A (setItem ov iv u) (fun _ s' => ∃ H', Inv X pins σ H' s' /\ Q H') X.xe s
section
variable {X : Cx} {pos : Pos}
noncomputable def gName (i : Nat) : TG := fun v σ H Q => Q (σ.set i (some v)) H
theorem pg_name {i : Nat} {x : Str} (hN : X.N.Nodup) (hi : X.N[i]? = some x) (hx : Loc X.env.scope x) (hf : X.fn x = true \/ X.env.scope.names.lookup x = some .local := by first | exact .inl rfl | exact .inr rfl | assumption) : PG X (.Name x pos) (gName i) := by
  intro pins s σ H v u Q I r h
  exact wpAny_assign_Name (store_ok I hN hi hx r (fun s' I' => ⟨_, H, I', h⟩) hf)
noncomputable def gNil : TGs := fun vs σ H Q => vs = [] /\ Q σ H
noncomputable def gCons (t : TG) (u : TGs) : TGs := fun vs σ H Q => ∃ v r, vs = v :: r /\ t v σ H fun σ' H' => u r σ' H' Q
theorem pgs_nil : PGs X [] gNil := by
  intro pins s σ H vs us Q I r h
  obtain ⟨e, h⟩ := h
  subst e
  cases r
  exact assignInOrder_nil ⟨σ, H, I, h⟩
theorem pgs_cons {e : Expr} {es : List Expr} {t : TG} {u : TGs} (h1 : PG X e t) (h2 : PGs X es u)
    (hs : (assignEach (e :: es) X.env).map (·.2) = assign e X.env :: (assignEach es X.env).map (·.2) := by rfl) : PGs X (e :: es) (gCons t u) := by
  intro pins s σ H vs us Q I r h
  obtain ⟨v, vr, e1, h⟩ := h
  subst e1
  cases r with
  | cons r rr =>
    rw [hs]
    refine assignInOrder_cons (thn (h1 pins s σ H _ _ _ I r h) fun _ s1 ⟨σ1, H1, I1, q1⟩ => ?_)
    exact h2 pins s1 σ1 H1 _ _ Q I1 rr q1
noncomputable def gTup (K : PySem.W.Frag) (n : Nat) (t : TGs) : TG := fun v σ H Q => ∃ a xs, v = .ref a /\ SqT K H a xs /\ xs.length = n /\ t xs σ H Q
theorem pg_tup {es : List Expr} {k : Nat} {t : TGs} {n : Nat} (hc : X.calm = true) (h : PGs X es t)
    (hn : (assignEach es X.env).length = n := by rfl) (hst : (assignEach es X.env).findIdx? (·.1) = none := by rfl) : PG X (.Tuple es k pos) (gTup X.K n t) := by
  intro pins s σ H v u Q I r hw
  obtain ⟨a, xs, e1, hq, hl, hw⟩ := hw
  subst e1
  cases r
  obtain ⟨its, rv, ht, hz⟩ := I.tuple hq
  refine assign_Tuple_tuple (I.ok.hd hc) ht (by simp [hn, <- hl, rv.length]) hst fun h' hx => ?_
  have I1 : Inv X pins σ H { s with heap := h' } := I.kept (t' := s.toks) fun b o e => hx b o (Nat.ne_of_lt (Heap.lt_size e)) e
  exact h pins _ σ H xs _ Q I1 (by simpa using rv) hw
noncomputable def gSub (to ti : TE) (t : TSet) : TG := fun v σ H Q => to σ H fun o H1 => ti σ H1 fun i H2 => t o i v H2 fun H3 => Q σ H3
theorem pg_sub {o i : Expr} {to ti : TE} {t : TSet} (ho : PE X o to) (hi : PE X i ti) (hs : PSet X t)
    (ha : ∀ v, assign (.Subscript o i pos) X.env v = (do
      let ov <- holding [v] (eval o X.env)
      let iv <- holding [v, ov] (eval i X.env)
      standAt pos
      holding [v, ov, iv] (setItem ov iv v)
      release [v, ov, iv] []) := by intro _; rfl) : PG X (.Subscript o i pos) (gSub to ti t) := by
  intro pins s σ H v u Q I r h
  rw [ha]
  refine wpAny_bind (wpAny_holding (thn (ho pins s σ H _ I h) fun ov s1 ⟨x, H1, I1, r1, q1⟩ => ?_))
  refine wpAny_bind (wpAny_holding (thn (hi pins s1 σ H1 _ I1 q1) fun iv s2 ⟨y, H2, I2, r2, q2⟩ => ?_))
  refine wpAny_bind (wpAny_standAt (wpAny_bind (wpAny_holding (thn (hs pins s2 σ H2 x y v ov iv u _ I2 r1 r2 r q2) fun _ s3 ⟨H3, I3, q3⟩ => ?_))))
  exact wpAny_release ⟨σ, H3, I3, q3⟩
noncomputable def tAsg (te : TE) (g : TG) : TS := fun D σ H => te σ H fun x H1 => g x σ H1 D.nx
theorem ps_asg {tg e : Expr} {te : TE} {g : TG} (he : PE X e te) (hg : PG X tg g) (hs : swapsWithSole [tg] e pos.line X.env = pure false := by rfl) (hw : swappedStores [tg] e X.env = pure none := by rfl)
    (h1 : (assignEach [tg] X.env).map (·.2) = [assign tg X.env] := by rfl) : PS X (.Assign [tg] e pos) (tAsg te g) := by
  intro pins s σ H D I h
  refine wpAny_Assign_stores (thn (he pins s σ H _ I h) fun v s1 ⟨x, H1, I1, r1, q1⟩ => ?_) hs hw
  rw [h1]
  exact thn (hg pins s1 σ H1 x v _ I1 r1 q1) fun _ s2 q => q
theorem ps_set {i : Nat} {x : Str} {e : Expr} {te : TE} {pos' : Pos} (hN : X.N.Nodup) (hi : X.N[i]? = some x) (hx : Loc X.env.scope x) (he : PE X e te) (hs : swapsWith e (some (.Name x pos')) pos.line X.env = pure false := by rfl) (hf : X.fn x = true \/ X.env.scope.names.lookup x = some .local := by first | exact .inl rfl | exact .inr rfl | assumption) :
    PS X (.Assign [.Name x pos'] e pos) (tAsg te (gName i)) := by
  intro pins s σ H D I h
  refine wpAny_Assign_Name (thn (he pins s σ H _ I h) fun v s1 ⟨y, H1, I1, r1, q1⟩ => ?_) hs
  exact store_ok I1 hN hi hx r1 (fun s2 I2 => ⟨_, H1, I2, q1⟩) hf
end
section
variable {X : Cx} {pos : Pos}
end
structure It where
  go : Nat -> Hp -> Prop
  yld : Nat -> Hp -> V -> Hp -> Prop
  stop : Nat -> Hp -> Prop
noncomputable def FpOk (X : Cx) (pins : List (Addr × Obj)) (H : Hp) (b : Addr) : Prop :=
  H b = none /\ b ≠ X.env.locals /\ b ∉ X.fs /\ (b ∈ X.ex \/ X.s₀.heap.objs.size <= b) /\ (∀ x c, X.env.cells.lookup x = some c -> c ≠ b) /\ ∀ p ∈ X.pn ++ pins, p.1 ≠ b
theorem Inv.fpOk {X : Cx} {pins : List (Addr × Obj)} {σ : St} {H H' : Hp} {s : Shared} {b : Addr} (I : Inv X pins σ H s) (hb : s.heap.objs.size <= b) (hn : H' b = none) : FpOk X pins H' b := by
  refine ⟨hn, Nat.ne_of_gt (Nat.lt_of_lt_of_le I.lt hb), I.nofs hb, .inr (Nat.le_trans I.sz hb), fun x c e z => ?_, fun p hp z => ?_⟩
  · obtain ⟨v, q⟩ := I.cell x c e
    exact absurd (Nat.lt_of_lt_of_le q.lt (by rw [z]; exact hb)) (Nat.lt_irrefl _)
  · exact absurd (Nat.lt_of_lt_of_le (Heap.lt_size (I.pin p hp).1) (by rw [z]; exact hb)) (Nat.lt_irrefl _)
structure Turn (P : Program) (w : World) (K : PySem.W.Frag) (tg : Expr) (J : It) (fp : List Addr) (it : Addr) (tn : Nat -> Heap -> Prop) : Prop where
  mem : it ∈ fp
  obj : ∀ i h, tn i h -> ∀ b ∈ fp, ∃ o, h.get? b = some o /\ ∀ v, o.data ≠ .cell v
  keep : ∀ i h h', tn i h -> (∀ b ∈ fp, ∀ o, h.get? b = some o -> h'.get? b = some o) -> tn i h'
  item : ∀ (X : Cx), X.prog = P -> X.w = w -> X.K = K -> X.calm = true -> ∀ (i : Nat) (pins : List (Addr × Obj)) (s : Shared) (σ : St) (H : Hp) (E : Value -> Shared -> Prop), Inv X pins σ H s -> (∀ b ∈ fp, FpOk X pins H b) -> tn i s.heap -> J.go i H ->
    wpAny (model P w) X.A (pyNext (.ref it)) (fun r s1 => ∃ u, r = some u /\
      wpAny (model P w) X.A (letOwnedTupleGo tg (.ref it) u) (fun _ s2 => ∃ x H', Inv X pins σ H' s2 /\ RelV x u /\ J.yld i H x H' /\ tn (i + 1) s2.heap /\ ∀ b ∈ fp, H' b = none) E s1) E s
  done : ∀ (X : Cx), X.prog = P -> X.w = w -> X.K = K -> X.calm = true -> ∀ (i : Nat) (pins : List (Addr × Obj)) (s : Shared) (σ : St) (H : Hp) (E : Value -> Shared -> Prop), Inv X pins σ H s -> (∀ b ∈ fp, FpOk X pins H b) -> tn i s.heap -> J.stop i H ->
    wpAny (model P w) X.A (pyNext (.ref it)) (fun r s1 => r = none /\ Inv X pins σ H s1) E s
  self : ∀ (A : Around) (i : Nat) (s : Shared) (Q : Value -> Shared -> Prop) (E : Value -> Shared -> Prop), tn i s.heap -> Q (.ref it) s -> wpAny (model P w) A (pyIter (.ref it)) Q E s
noncomputable abbrev TI := St -> Hp -> (It -> Hp -> Prop) -> Prop
noncomputable def PIE (X : Cx) (pins : List (Addr × Obj)) (σ : St) (tg : Expr) (R : It -> Hp -> Prop) (itv : Value) (s2 : Shared) : Prop :=
  ∃ (it : Addr) (fp : List Addr) (tn : Nat -> Heap -> Prop) (J : It) (H' : Hp), itv = .ref it /\ Inv X pins σ H' s2 /\ Turn X.prog X.w X.K tg J fp it tn /\ tn 0 s2.heap /\ (∀ b ∈ fp, FpOk X pins H' b) /\ R J H'
noncomputable def PI (X : Cx) (tg iter : Expr) (wi : TI) : Prop :=
  ∀ (pins : List (Addr × Obj)) (s : Shared) (σ : St) (H : Hp) (R : It -> Hp -> Prop), Inv X pins σ H s -> wi σ H R ->
    wpAny (model X.prog X.w) X.A (eval iter X.env) (fun v s1 => wpAny (model X.prog X.w) X.A (pyIter v) (PIE X pins σ tg R) X.xe s1) X.xe s
theorem go_of {M : Model} {A : Around} {E : Value -> Shared -> Prop} {s : Shared} {tg : Expr} {it : Addr} {u : Value} {o : Obj} {n : String} {vs : Array Value} {Q : Unit -> Shared -> Prop} (ho : s.heap.get? it = some o) (hc : o.cls = .type n) (hd : o.data = .fields vs)
    (hn : ["enumerate", "zip", "dict_itemiterator", "dict_reverseitemiterator", "odict_iterator", "itertools.zip_longest", "itertools.pairwise"].contains n = false) (hQ : Q () s) : wpAny M A (letOwnedTupleGo tg (.ref it) u) Q E s := by
  unfold letOwnedTupleGo
  cases tg <;> first
    | exact wpAny_pure hQ
    | (cases u <;> first
        | exact wpAny_pure hQ
        | (refine wpAny_bind (wpAny_load ho ?_)
           rw [hc, hd]
           show wpAny M A (if (["enumerate", "zip", "dict_itemiterator", "dict_reverseitemiterator", "odict_iterator", "itertools.zip_longest", "itertools.pairwise"].contains n && vs[0]? == some (rawInt _)) = true then _ else _) Q E s
           rw [if_neg (by intro h; rw [hn, Bool.false_and] at h; cases h)]
           exact wpAny_pure hQ))
noncomputable def Itl (K : PySem.W.Frag) (a : Addr) : It :=
  ⟨fun i H => ∃ xs x, SqL K H a xs /\ xs[i]? = some x, fun i H x H' => H' = H /\ ∀ xs, SqL K H a xs -> xs[i]? = some x, fun i H => ∃ xs, SqL K H a xs /\ xs.length <= i⟩
noncomputable def Itt (K : PySem.W.Frag) (a : Addr) : It :=
  ⟨fun i H => ∃ xs x, SqT K H a xs /\ xs[i]? = some x, fun i H x H' => H' = H /\ ∀ xs, SqT K H a xs -> xs[i]? = some x, fun i H => ∃ xs, SqT K H a xs /\ xs.length <= i⟩
noncomputable def Itr (lo : Int) (n : Nat) : It := ⟨fun i _ => i < n, fun i H x H' => H' = H /\ x = .int (lo + i), fun i _ => n <= i⟩
theorem turn_list {P : Program} {w : World} {K : PySem.W.Frag} {tg : Expr} (a it : Addr) : Turn P w K tg (Itl K a) [it] it (fun i h => h.IsListIter it a i) where
  mem := by simp
  obj := fun i h st b hb => by
    have e : b = it := by simpa using hb
    subst e
    obtain ⟨o, e, c, d⟩ := st
    exact ⟨o, e, fun v z => by rw [d] at z; cases z⟩
  keep := fun i h h' st k => st.at fun o e => k it (by simp) o e
  item := by
    intro X hP hw hK hc i pins s σ H E I hf st hg
    subst hP hw hK
    obtain ⟨xs, x, hq, hx⟩ := hg
    obtain ⟨its, rv, p, hz⟩ := I.list hq
    obtain ⟨u, hu, ru⟩ := rv.get hx
    obtain ⟨f0, f1, f2, f3, f4, f5⟩ := hf it (by simp)
    refine wpAny_pyNext_list_item st p.isList (x := u) (by simpa using hu) fun h' st' sb => ?_
    have I1 : Inv X pins σ H { s with heap := h' } := I.turned (t' := s.toks) (fun b o hb e => (sb.2 b hb).trans e) f0 f1 f3 f4 f5
    obtain ⟨o, e, c, d⟩ := id st'
    exact ⟨u, rfl, go_of (s := { s with heap := h' }) e c d (by decide) ⟨x, H, I1, ru, ⟨rfl, fun ys hy => by rw [I.list_inj hy hq]; exact hx⟩, st', fun b hb => (hf b hb).1⟩⟩
  done := by
    intro X hP hw hK hc i pins s σ H E I hf st hg
    subst hP hw hK
    obtain ⟨xs, hq, hx⟩ := hg
    obtain ⟨its, rv, p, hz⟩ := I.list hq
    obtain ⟨f0, f1, f2, f3, f4, f5⟩ := hf it (by simp)
    have hl := rv.length
    exact wpAny_pyNext_list_end (I.ok.hd hc) st p.isList (by simp; omega) fun h' eb => ⟨rfl, I.turned (t' := s.toks) (fun b o hb e => eb b o hb e) f0 f1 f3 f4 f5⟩
  self := fun _ _ _ _ _ st h => wpAny_pyIter_listiter st h
theorem turn_tuple {P : Program} {w : World} {K : PySem.W.Frag} {tg : Expr} (a it : Addr) : Turn P w K tg (Itt K a) [it] it (fun i h => h.IsTupleIter it a i) where
  mem := by simp
  obj := fun i h st b hb => by
    have e : b = it := by simpa using hb
    subst e
    obtain ⟨o, e, c, d⟩ := st
    exact ⟨o, e, fun v z => by rw [d] at z; cases z⟩
  keep := fun i h h' st k => st.at fun o e => k it (by simp) o e
  item := by
    intro X hP hw hK hc i pins s σ H E I hf st hg
    subst hP hw hK
    obtain ⟨xs, x, hq, hx⟩ := hg
    obtain ⟨its, rv, p, hz⟩ := I.tuple hq
    obtain ⟨u, hu, ru⟩ := rv.get hx
    obtain ⟨f0, f1, f2, f3, f4, f5⟩ := hf it (by simp)
    refine wpAny_pyNext_tuple_item st (show s.heap.IsTuple a its.toArray from p) (x := u) (by simpa using hu) fun h' st' sb => ?_
    have I1 : Inv X pins σ H { s with heap := h' } := I.turned (t' := s.toks) (fun b o hb e => (sb.2 b hb).trans e) f0 f1 f3 f4 f5
    obtain ⟨o, e, c, d⟩ := id st'
    exact ⟨u, rfl, go_of (s := { s with heap := h' }) e c d (by decide) ⟨x, H, I1, ru, ⟨rfl, fun ys hy => by rw [I.tuple_inj hy hq]; exact hx⟩, st', fun b hb => (hf b hb).1⟩⟩
  done := by
    intro X hP hw hK hc i pins s σ H E I hf st hg
    subst hP hw hK
    obtain ⟨xs, hq, hx⟩ := hg
    obtain ⟨its, rv, p, hz⟩ := I.tuple hq
    obtain ⟨f0, f1, f2, f3, f4, f5⟩ := hf it (by simp)
    have hl := rv.length
    exact wpAny_pyNext_tuple_end (I.ok.hd hc) st (show s.heap.IsTuple a its.toArray from p) (by simp; omega) fun h' eb => ⟨rfl, I.turned (t' := s.toks) (fun b o hb e => eb b o hb e) f0 f1 f3 f4 f5⟩
  self := fun _ _ _ _ _ st h => wpAny_pyIter_tupleiter st h
theorem turn_range {P : Program} {w : World} {K : PySem.W.Frag} {tg : Expr} (it : Addr) (lo : Int) (n : Nat) : Turn P w K tg (Itr lo n) [it] it (fun i h => IsRangeIter h it (lo + (i : Nat) * 1) ((n : Int) - (i : Nat)) 1) where
  mem := by simp
  obj := fun i h st b hb => by
    have e : b = it := by simpa using hb
    subst e
    exact ⟨_, st, fun v z => by
      have z' : Data.fields _ = Data.cell v := z
      cases z'⟩
  keep := fun i h h' st k => k it (by simp) _ st
  item := by
    intro X hP hw hK hc i pins s σ H E I hf st hg
    subst hP hw hK
    obtain ⟨f0, f1, f2, f3, f4, f5⟩ := hf it (by simp)
    have W := Walks.range (prog := X.prog) (w := X.w) (I.ok.hd hc) it lo 1 n
    refine W.item i s _ _ hg st fun v h' tk hv st' kk => ?_
    obtain ⟨t, rfl⟩ := hv
    have I1 : Inv X pins σ H { s with heap := h', toks := tk } := I.turned (fun b o hb e => kk b o (by simpa using hb) e) f0 f1 f3 f4 f5
    refine ⟨_, rfl, go_of (s := { s with heap := h', toks := tk }) (n := "range_iterator") st' rfl rfl (by decide) ⟨.int (lo + i), H, I1, ⟨t, ?_⟩, ⟨rfl, rfl⟩, st', fun b hb => (hf b hb).1⟩⟩
    rw [Int.mul_one]
  done := by
    intro X hP hw hK hc i pins s σ H E I hf st hg
    subst hP hw hK
    obtain ⟨f0, f1, f2, f3, f4, f5⟩ := hf it (by simp)
    exact wpAny_pyNext_range_end (I.ok.hd hc) st (by have : n <= i := hg; omega) fun h' eb => ⟨rfl, I.turned (t' := s.toks) (fun b o hb e => eb b o hb e) f0 f1 f3 f4 f5⟩
  self := fun _ _ _ _ _ st h => wpAny_pyIter_rangeiter st h
end L2
namespace L2
open PySem PySem.Spec PyProof.Rows
section
variable {X : Cx} {tg : Expr}
noncomputable def iList (K : PySem.W.Frag) (tl : TE) : TI := fun σ H R => tl σ H fun x H1 => ∃ a, x = .ref a /\ (∃ xs, SqL K H1 a xs) /\ R (Itl K a) H1
noncomputable def iTup (K : PySem.W.Frag) (tl : TE) : TI := fun σ H R => tl σ H fun x H1 => ∃ a, x = .ref a /\ (∃ xs, SqT K H1 a xs) /\ R (Itt K a) H1
theorem pi_list {l : Expr} {tl : TE} (hl : PE X l tl) : PI X tg l (iList X.K tl) := by
  intro pins s σ H R I h
  refine thn (hl pins s σ H _ I h) fun v s1 ⟨x, H1, I1, r1, q1⟩ => ?_
  obtain ⟨a, e, ⟨xs, hq⟩, q⟩ := q1
  subst e
  cases r1
  obtain ⟨its, rv, p, hz⟩ := I1.list hq
  refine wpAny_pyIter_list p.isList ?_
  refine ⟨s1.heap.objs.size, [s1.heap.objs.size], _, _, H1, rfl, I1.kept (t' := s1.toks) fun b o e => Heap.get?_push_of_some _ e, turn_list a _, ⟨_, Heap.get?_push_size _ rfl, rfl, rfl⟩, fun b hb => ?_, q⟩
  have e : b = s1.heap.objs.size := by simpa using hb
  subst e
  exact I1.fpOk (Nat.le_refl _) (I1.hok.fresh (Nat.le_refl _))
theorem pi_tup {l : Expr} {tl : TE} (hl : PE X l tl) : PI X tg l (iTup X.K tl) := by
  intro pins s σ H R I h
  refine thn (hl pins s σ H _ I h) fun v s1 ⟨x, H1, I1, r1, q1⟩ => ?_
  obtain ⟨a, e, ⟨xs, hq⟩, q⟩ := q1
  subst e
  cases r1
  obtain ⟨its, rv, p, hz⟩ := I1.tuple hq
  refine wpAny_pyIter_tuple (show s1.heap.IsTuple a its.toArray from p) ?_
  refine ⟨s1.heap.objs.size, [s1.heap.objs.size], _, _, H1, rfl, I1.kept (t' := s1.toks) fun b o e => Heap.get?_push_of_some _ e, turn_tuple a _, ⟨_, Heap.get?_push_size _ rfl, rfl, rfl⟩, fun b hb => ?_, q⟩
  have e : b = s1.heap.objs.size := by simpa using hb
  subst e
  exact I1.fpOk (Nat.le_refl _) (I1.hok.fresh (Nat.le_refl _))
theorem range_it {pins : List (Addr × Obj)} {σ : St} {H : Hp} {s : Shared} {R : It -> Hp -> Prop} {E : Value -> Shared -> Prop} {lo hi : Int} {t u v : Tok} {tk : Nat} (I : Inv X pins σ H s) (h1 : -(2 ^ 62) <= lo) (h2 : lo < 2 ^ 62) (h3 : -(2 ^ 62) <= hi) (h4 : hi < 2 ^ 62)
    (q : R (Itr lo (hi - lo).toNat) H) : wpAny (model X.prog X.w) X.A (pyIter (.ref s.heap.objs.size)) (PIE X pins σ tg R) E { s with heap := s.heap.push { cls := .type "range", data := .fields #[.int lo t, .int hi u, .int 1 v] }, toks := tk } := by
  refine wpAny_pyIter_range (IsRange.new ..) (small_one h1 h2 h3 h4) ?_
  have I1 : Inv X pins σ H { s with heap := s.heap.push { cls := .type "range", data := .fields #[.int lo t, .int hi u, .int 1 v] }, toks := tk } := I.kept fun b o e => Heap.get?_push_of_some _ e
  refine ⟨(s.heap.push { cls := .type "range", data := .fields #[.int lo t, .int hi u, .int 1 v] }).objs.size, [(s.heap.push { cls := .type "range", data := .fields #[.int lo t, .int hi u, .int 1 v] }).objs.size], _, _, H, rfl,
    I1.kept (t' := tk) fun b o e => Heap.get?_push_of_some _ e, turn_range _ lo (hi - lo).toNat, ?_, fun b hb => ?_, q⟩
  · have e1 : lo + ((0 : Nat) : Int) * 1 = lo := by simp
    have e2 : (((hi - lo).toNat : Nat) : Int) - ((0 : Nat) : Int) = Builtin.Range.rangeSize lo hi 1 := by rw [rangeSize_one]; split <;> omega
    show IsRangeIter _ _ (lo + ((0 : Nat) : Int) * 1) ((((hi - lo).toNat : Nat) : Int) - ((0 : Nat) : Int)) 1
    rw [e1, e2]
    exact Heap.get?_push_size _ rfl
  · have e : b = (s.heap.push { cls := .type "range", data := .fields #[.int lo t, .int hi u, .int 1 v] }).objs.size := by simpa using hb
    subst e
    exact I1.fpOk (Nat.le_refl _) (I1.hok.fresh (Nat.le_refl _))
noncomputable def iRng1 (ta : TA) : TI := fun σ H R => ta σ H fun vs H1 => ∃ j : Int, vs = [.int j] /\ -(2 ^ 62) <= j /\ j < 2 ^ 62 /\ R (Itr 0 j.toNat) H1
theorem pi_range1 {a : Expr} {ta : TA} {p pos : Pos} (hg : Gl X "range") (hm : X.mg "range" = none) (ha : PA X [a] ta) (hs : starEach [a] X.env = [(false, eval a X.env)] := by rfl) : PI X tg (.Call (.Name "range" p) [a] [] pos) (iRng1 ta) := by
  intro pins s σ H R I h
  refine Call_ (ld_blt I hg hm boot_range (PyProof.Rows.callWith_type1 (thn (ha pos pins s σ H _ I h) fun us s1 ⟨vs, H1, I1, r1, q1⟩ => ?_) hs rfl))
  obtain ⟨j, e, q1, q2, q⟩ := q1
  subst e
  cases r1 with
  | cons r rr =>
    cases rr
    obtain ⟨t, rfl⟩ := r
    exact call_range_1 (range_it I1 (by omega) (by omega) q1 q2 (by simpa using q))
noncomputable def tFor (wi : TI) (g : TG) (tb : TS) : TS := fun D σ H => wi σ H fun J H1 => ∃ W : Nat -> Nat -> St -> Hp -> Prop, (∃ m, W 0 m σ H1) /\ ∀ i m σ H, W i m σ H ->
  (J.stop i H /\ D.nx σ H) \/ (J.go i H /\ ∃ N : St -> Hp -> Prop, (∀ σ' H', N σ' H' -> ∃ m', m' < m /\ W (i + 1) m' σ' H') /\ ∀ x H', J.yld i H x H' -> g x σ H' fun σ2 H2 => tb { D with nx := N, ct := N, bk := D.nx } σ2 H2)
noncomputable def pinsAt (fp : List Addr) (h : Heap) : List (Addr × Obj) := fp.filterMap fun b => (h.get? b).map fun o => (b, o)
theorem mem_pinsAt {fp : List Addr} {h : Heap} {b : Addr} {o : Obj} (hb : b ∈ fp) (e : h.get? b = some o) : (b, o) ∈ pinsAt fp h := List.mem_filterMap.mpr ⟨b, hb, by rw [e]; rfl⟩
theorem of_pinsAt {fp : List Addr} {h : Heap} {p : Addr × Obj} (hp : p ∈ pinsAt fp h) : p.1 ∈ fp /\ h.get? p.1 = some p.2 := by
  obtain ⟨b, hb, e⟩ := List.mem_filterMap.mp hp
  cases q : h.get? b with
  | none => rw [q] at e; cases e
  | some o =>
    rw [q] at e
    have e' : (b, o) = p := Option.some.inj e
    subst e'
    exact ⟨hb, q⟩
theorem Inv.pinned {pins : List (Addr × Obj)} {σ : St} {H : Hp} {s : Shared} {fp : List Addr} (I : Inv X pins σ H s) (hf : ∀ b ∈ fp, FpOk X pins H b) (ho : ∀ b ∈ fp, ∃ o, s.heap.get? b = some o /\ ∀ v, o.data ≠ .cell v) : Inv X (pins ++ pinsAt fp s.heap) σ H s :=
  I.pins_of fun p hp => (List.mem_append.mp hp).elim (fun z => I.pin p (List.mem_append_right _ z)) fun z => by
    obtain ⟨hb, e⟩ := of_pinsAt z
    obtain ⟨f0, f1, f2, _⟩ := hf p.1 hb
    obtain ⟨o, e', d⟩ := ho p.1 hb
    rw [e] at e'; cases e'
    exact ⟨e, f0, f1, f2, d⟩
theorem Inv.unpinned {pins pl : List (Addr × Obj)} {σ : St} {H : Hp} {s : Shared} (I : Inv X (pins ++ pl) σ H s) : Inv X pins σ H s := I.pins_of fun p hp => I.pin p (List.mem_append_right _ (List.mem_append_left _ hp))
theorem ps_for {iter : Expr} {body : List Stmt} {wi : TI} {g : TG} {tb : TS} {pos : Pos} (hp : PassesOwn (model X.prog X.w) X.A X.env X.xe) (hc : X.calm = true) (hi : PI X tg iter wi) (hg : PG X tg g) (hb : PSs X body tb)
    (hs : ∀ x, foldedSetIterable iter X.env x = pure x := by intro _; rfl) : PS X (.For tg iter body [] pos) (tFor wi g tb) := by
  intro pins s σ H D I h
  refine wpAny_For (thn (hi pins s σ H _ I h) fun v s1 h1 => thn h1 fun itv s2 h2 => ?_) hs
  obtain ⟨it, fp, tn, J, H2, e, I2, T, st2, f2, W, ⟨m0, w0⟩, turn⟩ := h2
  subst e
  -- what stays true of the iterator's objects through the loop
  have stat : ∀ {H' : Hp}, (∀ b ∈ fp, H' b = none) -> ∀ b ∈ fp, FpOk X pins H' b := fun hn b hb => ⟨hn b hb, (f2 b hb).2⟩
  refine codeAny_forLoop_any (fun n s' => ∃ i σ' H', Inv X pins σ' H' s' /\ tn i s'.heap /\ (∀ b ∈ fp, H' b = none) /\ W i n σ' H') ?_ m0 ⟨0, σ, H2, I2, st2, fun b hb => (f2 b hb).1, w0⟩
  rintro n s3 ⟨i, σ3, H3, I3, st3, fr3, w3⟩
  rcases turn i n σ3 H3 w3 with ⟨stop, qn⟩ | ⟨go, N, hN, step⟩
  · refine wpAny_passesOwn hp (thn (T.done X rfl rfl rfl hc i pins s3 σ3 H3 X.xe I3 (stat fr3) st3 stop) fun r s4 ⟨hr, I4⟩ => ?_)
    subst hr
    exact wpAny_execs_nil ⟨σ3, H3, I4, qn⟩
  · refine wpAny_passesOwn hp (thn (T.item X rfl rfl rfl hc i pins s3 σ3 H3 X.xe I3 (stat fr3) st3 go) fun r s4 ⟨u, hr, h4⟩ => ?_)
    subst hr
    refine wpAny_passesOwn hp (thn h4 fun _ s5 ⟨x, H5, I5, r5, y5, st5, fr5⟩ => ?_)
    have I5' := I5.pinned (stat fr5) (T.obj _ _ st5)
    refine wpAny_passesOwn hp (thn (hg _ s5 σ3 H5 x u _ I5' r5 (step x H5 y5)) fun _ s6 ⟨σ6, H6, I6, q6⟩ => ?_)
    refine wpAny_passesOwn hp (thn (hb _ s6 σ6 H6 _ I6 q6) fun f s7 q7 => ?_)
    have again : ∀ {σ7 : St} {H7 : Hp}, Inv X (pins ++ pinsAt fp s5.heap) σ7 H7 s7 -> N σ7 H7 -> ∃ m, m < n /\ ∃ i σ' H', Inv X pins σ' H' s7 /\ tn i s7.heap /\ (∀ b ∈ fp, H' b = none) /\ W i m σ' H' := fun {σ7 H7} I7 n7 => by
      obtain ⟨m', hm, w7⟩ := hN σ7 H7 n7
      refine ⟨m', hm, i + 1, σ7, H7, I7.unpinned, T.keep _ _ _ st5 fun b hb o e => (I7.pin (b, o) (List.mem_append_right _ (List.mem_append_right _ (mem_pinsAt hb e)))).1, fun b hb => ?_, w7⟩
      obtain ⟨o, e, d⟩ := T.obj _ _ st5 b hb
      exact (I7.pin (b, o) (List.mem_append_right _ (List.mem_append_right _ (mem_pinsAt hb e)))).2.1
    cases f with
    | next => obtain ⟨σ7, H7, I7, n7⟩ := q7; exact again I7 n7
    | cont => obtain ⟨σ7, H7, I7, n7⟩ := q7; exact again I7 n7
    | brk => obtain ⟨σ7, H7, I7, q7⟩ := q7; exact ⟨σ7, H7, I7.unpinned, q7⟩
    | ret v => obtain ⟨x7, σ7, H7, I7, r7, q7⟩ := q7; exact ⟨x7, σ7, H7, I7.unpinned, r7, q7⟩
end
theorem for_list {K : PySem.W.Frag} {a : Addr} {xs : List V} {g : TG} {tb : TS} {D : Ends} {σ : St} {H : Hp} (Pv : Nat -> St -> Hp -> Prop) (h0 : Pv 0 σ H) (hl : ∀ i σ H, i <= xs.length -> Pv i σ H -> SqL K H a xs)
    (hs : ∀ i x σ H, xs[i]? = some x -> Pv i σ H -> g x σ H fun σ2 H2 => tb { D with nx := Pv (i + 1), ct := Pv (i + 1), bk := D.nx } σ2 H2) (hd : ∀ σ H, Pv xs.length σ H -> D.nx σ H) :
    ∃ W : Nat -> Nat -> St -> Hp -> Prop, (∃ m, W 0 m σ H) /\ ∀ i m σ H, W i m σ H ->
      ((Itl K a).stop i H /\ D.nx σ H) \/ ((Itl K a).go i H /\ ∃ N : St -> Hp -> Prop, (∀ σ' H', N σ' H' -> ∃ m', m' < m /\ W (i + 1) m' σ' H') /\ ∀ x H', (Itl K a).yld i H x H' -> g x σ H' fun σ2 H2 => tb { D with nx := N, ct := N, bk := D.nx } σ2 H2) := by
  refine ⟨fun i m σ H => m = xs.length - i /\ i <= xs.length /\ Pv i σ H, ⟨xs.length, by simp, Nat.zero_le _, h0⟩, ?_⟩
  rintro i m σ H ⟨rfl, hi, p⟩
  have q := hl i σ H hi p
  by_cases hlt : i < xs.length
  · refine .inr ⟨⟨xs, xs[i], q, by simp [hlt]⟩, Pv (i + 1), fun σ' H' p' => ⟨xs.length - (i + 1), by omega, rfl, hlt, p'⟩, fun x H' y => ?_⟩
    obtain ⟨e, y⟩ := y
    subst e
    exact hs i x σ _ (y xs q) p
  · have e : i = xs.length := by omega
    subst e
    exact .inl ⟨⟨xs, q, Nat.le_refl _⟩, hd σ H p⟩
theorem for_tup {K : PySem.W.Frag} {a : Addr} {xs : List V} {g : TG} {tb : TS} {D : Ends} {σ : St} {H : Hp} (Pv : Nat -> St -> Hp -> Prop) (h0 : Pv 0 σ H) (hl : ∀ i σ H, i <= xs.length -> Pv i σ H -> SqT K H a xs)
    (hs : ∀ i x σ H, xs[i]? = some x -> Pv i σ H -> g x σ H fun σ2 H2 => tb { D with nx := Pv (i + 1), ct := Pv (i + 1), bk := D.nx } σ2 H2) (hd : ∀ σ H, Pv xs.length σ H -> D.nx σ H) :
    ∃ W : Nat -> Nat -> St -> Hp -> Prop, (∃ m, W 0 m σ H) /\ ∀ i m σ H, W i m σ H ->
      ((Itt K a).stop i H /\ D.nx σ H) \/ ((Itt K a).go i H /\ ∃ N : St -> Hp -> Prop, (∀ σ' H', N σ' H' -> ∃ m', m' < m /\ W (i + 1) m' σ' H') /\ ∀ x H', (Itt K a).yld i H x H' -> g x σ H' fun σ2 H2 => tb { D with nx := N, ct := N, bk := D.nx } σ2 H2) := by
  refine ⟨fun i m σ H => m = xs.length - i /\ i <= xs.length /\ Pv i σ H, ⟨xs.length, by simp, Nat.zero_le _, h0⟩, ?_⟩
  rintro i m σ H ⟨rfl, hi, p⟩
  have q := hl i σ H hi p
  by_cases hlt : i < xs.length
  · refine .inr ⟨⟨xs, xs[i], q, by simp [hlt]⟩, Pv (i + 1), fun σ' H' p' => ⟨xs.length - (i + 1), by omega, rfl, hlt, p'⟩, fun x H' y => ?_⟩
    obtain ⟨e, y⟩ := y
    subst e
    exact hs i x σ _ (y xs q) p
  · have e : i = xs.length := by omega
    subst e
    exact .inl ⟨⟨xs, q, Nat.le_refl _⟩, hd σ H p⟩
theorem for_range {lo : Int} {n : Nat} {g : TG} {tb : TS} {D : Ends} {σ : St} {H : Hp} (Pv : Nat -> St -> Hp -> Prop) (h0 : Pv 0 σ H)
    (hs : ∀ i σ H, i < n -> Pv i σ H -> g (.int (lo + i)) σ H fun σ2 H2 => tb { D with nx := Pv (i + 1), ct := Pv (i + 1), bk := D.nx } σ2 H2) (hd : ∀ σ H, Pv n σ H -> D.nx σ H) :
    ∃ W : Nat -> Nat -> St -> Hp -> Prop, (∃ m, W 0 m σ H) /\ ∀ i m σ H, W i m σ H ->
      ((Itr lo n).stop i H /\ D.nx σ H) \/ ((Itr lo n).go i H /\ ∃ N : St -> Hp -> Prop, (∀ σ' H', N σ' H' -> ∃ m', m' < m /\ W (i + 1) m' σ' H') /\ ∀ x H', (Itr lo n).yld i H x H' -> g x σ H' fun σ2 H2 => tb { D with nx := N, ct := N, bk := D.nx } σ2 H2) := by
  refine ⟨fun i m σ H => m = n - i /\ i <= n /\ Pv i σ H, ⟨n, by simp, Nat.zero_le _, h0⟩, ?_⟩
  rintro i m σ H ⟨rfl, hi, p⟩
  by_cases hlt : i < n
  · refine .inr ⟨hlt, Pv (i + 1), fun σ' H' p' => ⟨n - (i + 1), by omega, rfl, hlt, p'⟩, fun x H' y => ?_⟩
    obtain ⟨e, y⟩ := y
    subst e y
    exact hs i σ _ hlt p
  · have e : i = n := by omega
    subst e
    exact .inl ⟨Nat.le_refl _, hd σ H p⟩
end L2
namespace L2
open PySem PySem.Spec PyProof.Rows
noncomputable abbrev R2 := V -> V -> Hp -> VK -> Prop
noncomputable def OpR (X : Cx) (f : Value -> Value -> Sem Value) (r : R2) : Prop :=
  ∀ (pins : List (Addr × Obj)) (s : Shared) (σ : St) (H : Hp) (x y : V) (v u : Value) (Q : VK), Inv X pins σ H s -> RelV x v -> RelV y u -> r x y H Q ->
    wpAny (model X.prog X.w) X.A (f v u) (EP X pins σ Q) X.xe s
noncomputable def UnR (X : Cx) (f : Value -> Sem Value) (r : V -> Hp -> VK -> Prop) : Prop :=
  ∀ (pins : List (Addr × Obj)) (s : Shared) (σ : St) (H : Hp) (x : V) (v : Value) (Q : VK), Inv X pins σ H s -> RelV x v -> r x H Q ->
    wpAny (model X.prog X.w) X.A (f v) (EP X pins σ Q) X.xe s
noncomputable def CallR (X : Cx) (f : Value) (r : List V -> Hp -> VK -> Prop) : Prop :=
  ∀ (pins : List (Addr × Obj)) (s : Shared) (σ : St) (H : Hp) (xs : List V) (us : List Value) (Q : VK), Inv X pins σ H s -> Vals xs us -> r xs H Q ->
    wpAny (model X.prog X.w) X.A (call f us) (EP X pins σ Q) X.xe s
noncomputable def tOp (r : R2) (ta tb : TE) : TE := fun σ H Q => ta σ H fun x H1 => tb σ H1 fun y H2 => r x y H2 Q
noncomputable def tUn (r : V -> Hp -> VK -> Prop) (ta : TE) : TE := fun σ H Q => ta σ H fun x H1 => r x H1 Q
noncomputable def rI (C : Int -> Int -> Prop) (g : Int -> Int -> V) : R2 := fun x y H Q => ∃ i j, x = .int i /\ y = .int j /\ C i j /\ Q (g i j) H
noncomputable def rI0 (g : Int -> Int -> V) : R2 := fun x y H Q => ∃ i j, x = .int i /\ y = .int j /\ Q (g i j) H
noncomputable def rU (g : Int -> V) : V -> Hp -> VK -> Prop := fun x H Q => ∃ i, x = .int i /\ Q (g i) H
section
variable {X : Cx} {a b c : Expr} {ta tb tc : TE} {pos : Pos}
theorem binT (ha : PE X a ta) (hb : PE X b tb) {pins : List (Addr × Obj)} {s : Shared} {σ : St} {H : Hp} {R : V -> V -> Hp -> Prop} (I : Inv X pins σ H s)
    (h : ta σ H fun x H1 => tb σ H1 fun y H2 => R x y H2) {Q : Value -> Shared -> Prop} {f : Value -> Value -> Sem Value}
    (hf : ∀ v u s2 x y H2, Inv X pins σ H2 s2 -> RelV x v -> RelV y u -> R x y H2 -> wpAny (model X.prog X.w) X.A (f v u) Q X.xe s2) :
    wpAny (model X.prog X.w) X.A (eval a X.env) (fun v s₁ => wpAny (model X.prog X.w) X.A (eval b X.env) (fun u s₂ => wpAny (model X.prog X.w) X.A (f v u) Q X.xe s₂) X.xe s₁) X.xe s := by
  refine thn (ha pins s σ H _ I h) fun v s1 ⟨x, H1, I1, r1, q1⟩ => ?_
  refine thn (hb pins s1 σ H1 _ I1 q1) fun u s2 ⟨y, H2, I2, r2, q2⟩ => ?_
  exact hf v u s2 x y H2 I2 r1 r2 q2
theorem pe_op {op : Operator} {r : R2} (ho : OpR X (binaryOp op) r) (ha : PE X a ta) (hb : PE X b tb) : PE X (.BinOp a op b pos) (tOp r ta tb) := by
  intro pins s σ H Q I h
  exact wpAny_BinOp (binT ha hb I h fun v u s2 x y H2 I2 rx ry q => ho pins s2 σ H2 x y v u Q I2 rx ry q)
theorem pe_un {op : UnaryOp} {r : V -> Hp -> VK -> Prop} (ho : UnR X (unaryOp op) r) (ha : PE X a ta) : PE X (.UnaryOp op a pos) (tUn r ta) := by
  intro pins s σ H Q I h
  exact UnaryOp_ (thn (ha pins s σ H _ I h) fun v s1 ⟨x, H1, I1, r1, q1⟩ => ho pins s1 σ H1 x v Q I1 r1 q1)
theorem opI {f : Value -> Value -> Sem Value} {C : Int -> Int -> Prop} {g : Int -> Int -> Int}
    (rule : ∀ (i j : Int) (t u : Tok) (s : Shared) (Q : Value -> Shared -> Prop) (E : Value -> Shared -> Prop), C i j -> Q (.int (g i j) s.toks) { s with toks := s.toks + 1 } -> wpAny (model X.prog X.w) X.A (f (.int i t) (.int j u)) Q E s) :
    OpR X f (rI C fun i j => .int (g i j)) := by
  intro pins s σ H x y v u Q I rx ry h
  obtain ⟨i, j, rfl, rfl, hc, q⟩ := h
  obtain ⟨t, rfl⟩ := rx
  obtain ⟨t', rfl⟩ := ry
  exact rule i j t t' s _ _ hc ⟨.int (g i j), H, I.tok _, ⟨_, rfl⟩, q⟩
theorem opI0 {f : Value -> Value -> Sem Value} {g : Int -> Int -> Int}
    (rule : ∀ (i j : Int) (t u : Tok) (s : Shared) (Q : Value -> Shared -> Prop) (E : Value -> Shared -> Prop), Q (.int (g i j) s.toks) { s with toks := s.toks + 1 } -> wpAny (model X.prog X.w) X.A (f (.int i t) (.int j u)) Q E s) :
    OpR X f (rI0 fun i j => .int (g i j)) := by
  intro pins s σ H x y v u Q I rx ry h
  obtain ⟨i, j, rfl, rfl, q⟩ := h
  obtain ⟨t, rfl⟩ := rx
  obtain ⟨t', rfl⟩ := ry
  exact rule i j t t' s _ _ ⟨.int (g i j), H, I.tok _, ⟨_, rfl⟩, q⟩
theorem opB0 {f : Value -> Value -> Sem Value} {g : Int -> Int -> Bool}
    (rule : ∀ (i j : Int) (t u : Tok) (s : Shared) (Q : Value -> Shared -> Prop) (E : Value -> Shared -> Prop), Q (.bool (g i j)) s -> wpAny (model X.prog X.w) X.A (f (.int i t) (.int j u)) Q E s) :
    OpR X f (rI0 fun i j => .bl (g i j)) := by
  intro pins s σ H x y v u Q I rx ry h
  obtain ⟨i, j, rfl, rfl, q⟩ := h
  obtain ⟨t, rfl⟩ := rx
  obtain ⟨t', rfl⟩ := ry
  exact rule i j t t' s _ _ ⟨.bl (g i j), H, I, rfl, q⟩
noncomputable def CDiv (i j : Int) : Prop := 0 < j /\ j < 1073741824
noncomputable def CPow (i j : Int) : Prop := 0 <= j /\ j <= 1000000 /\ i.natAbs < 2 ^ 64
noncomputable def CMul (i j : Int) : Prop := (-(2 ^ 64) < i /\ i < 2 ^ 64) \/ (-(2 ^ 64) < j /\ j < 2 ^ 64)
theorem CMul.ok {i j : Int} (h : CMul i j) : IntMulOk i j := by
  rcases h with ⟨h1, h2⟩ | ⟨h1, h2⟩
  · exact .of_left (intBits_le_64 h1 h2)
  · exact .of_right (intBits_le_64 h1 h2)
theorem op_add : OpR X (binaryOp .Add) (rI0 fun i j => .int (i + j)) := opI0 fun _ _ _ _ _ _ _ q => add_int q
theorem op_sub : OpR X (binaryOp .Sub) (rI0 fun i j => .int (i - j)) := opI0 fun _ _ _ _ _ _ _ q => sub_int q
theorem op_mul : OpR X (binaryOp .Mult) (rI CMul fun i j => .int (i * j)) := opI fun _ _ _ _ _ _ _ hc q => mul_int q hc.ok
theorem op_fdiv : OpR X (binaryOp .FloorDiv) (rI CDiv fun i j => .int (i / j)) := opI fun i j _ _ _ _ _ hc q => by
  have h1 : (0 : Int) < j := hc.1
  have h2 : j < 1073741824 := hc.2
  exact floordiv_int (by omega) (by rw [Int.fdiv_eq_ediv_of_nonneg i (by omega)]; exact q) (.inl (PyProof.noPylong_small (by omega)))
theorem op_mod : OpR X (binaryOp .Mod) (rI (fun _ j => 0 < j) fun i j => .int (i % j)) := opI fun i j _ _ _ _ _ hc q => by
  have h1 : (0 : Int) < j := hc
  exact mod_int' (by omega) (by rw [Int.fmod_eq_emod_of_nonneg i (by omega)]; exact q)
theorem op_pow : OpR X (binaryOp .Pow) (rI CPow fun i j => .int (i ^ j.toNat)) := opI fun _ _ _ _ _ _ _ hc q => pow_int_small hc.1 hc.2.1 hc.2.2 q
theorem unI {f : Value -> Sem Value} {g : Int -> Int}
    (rule : ∀ (i : Int) (t : Tok) (s : Shared) (Q : Value -> Shared -> Prop) (E : Value -> Shared -> Prop), Q (.int (g i) s.toks) { s with toks := s.toks + 1 } -> wpAny (model X.prog X.w) X.A (f (.int i t)) Q E s) :
    UnR X f (rU fun i => .int (g i)) := by
  intro pins s σ H x v Q I rx h
  obtain ⟨i, rfl, q⟩ := h
  obtain ⟨t, rfl⟩ := rx
  exact rule i t s _ _ ⟨.int (g i), H, I.tok _, ⟨_, rfl⟩, q⟩
theorem un_neg : UnR X (unaryOp .USub) (rU fun i => .int (-i)) := unI fun _ _ _ _ _ q => neg_int q
end
noncomputable def scal : V -> V -> Bool
  | .non, .non => true | .non, .int _ => true | .int _, .non => true | .non, .bl _ => true | .bl _, .non => true | .non, .str _ => true | .str _, .non => true
  | .int _, .int _ => true | .bl _, .bl _ => true | .str _, .str _ => true | .byt _, .byt _ => true
  | .int _, .str _ => true | .str _, .int _ => true | .bl _, .str _ => true | .str _, .bl _ => true
  | _, _ => false
noncomputable def rEq : R2 := fun x y H Q => scal x y = true /\ Q (.bl (decide (x = y))) H
noncomputable def rNe : R2 := fun x y H Q => scal x y = true /\ Q (.bl (!decide (x = y))) H
theorem dec_int {i j : Int} : decide (V.int i = V.int j) = (i == j) := by
  rw [Bool.eq_iff_iff]
  simp
theorem dec_bl {i j : Bool} : decide (V.bl i = V.bl j) = (i == j) := by
  rw [Bool.eq_iff_iff]
  simp
theorem dec_str {i j : Str} : decide (V.str i = V.str j) = (i == j) := by
  rw [Bool.eq_iff_iff]
  simp
theorem dec_byt {i j : Array UInt8} : decide (V.byt i = V.byt j) = (i.toList == j.toList) := by
  rw [Bool.eq_iff_iff]
  cases i
  cases j
  simp
section
variable {X : Cx} {a b c : Expr} {ta tb tc : TE} {pos : Pos}
theorem fin_bl {pins : List (Addr × Obj)} {σ : St} {H : Hp} {s : Shared} {Q : VK} {k k' : Bool} (I : Inv X pins σ H s) (q : Q (.bl k) H) (e : k = k') : EP X pins σ Q (.bool k') s := by
  subst e
  exact ⟨.bl k, H, I, rfl, q⟩
theorem op_eq : OpR X (compareOp .Eq) rEq := by
  intro pins s σ H x y v u Q I rx ry h
  obtain ⟨hs, q⟩ := h
  cases x with
  | non =>
    cases rx
    cases y with
    | non => cases ry; exact PySem.EqNone.eq_none_none (fin_bl I q (by simp))
    | bl j => cases ry; exact PySem.EqNone.eq_none_bool (fin_bl I q (by simp))
    | int j => obtain ⟨t', rfl⟩ := ry; exact PySem.EqNone.eq_none_int (fin_bl I q (by simp))
    | str j => obtain ⟨t', rfl⟩ := ry; exact PySem.EqNone.eq_none_str (fin_bl I q (by simp))
    | _ => exact absurd (show false = true from hs) Bool.false_ne_true
  | bl i =>
    cases rx
    cases y with
    | non => cases ry; exact PySem.EqNone.eq_bool_none (fin_bl I q (by simp))
    | bl j => cases ry; exact eq_bool (fin_bl I q dec_bl)
    | str j => obtain ⟨t', rfl⟩ := ry; exact PySem.EqMixed.eq_bool_str (fin_bl I q (by simp))
    | _ => exact absurd (show false = true from hs) Bool.false_ne_true
  | int i =>
    obtain ⟨t, rfl⟩ := rx
    cases y with
    | non => cases ry; exact PySem.EqNone.eq_int_none (fin_bl I q (by simp))
    | int j => obtain ⟨t', rfl⟩ := ry; exact eq_int (fin_bl I q dec_int)
    | str j => obtain ⟨t', rfl⟩ := ry; exact PySem.EqMixed.eq_int_str (fin_bl I q (by simp))
    | _ => exact absurd (show false = true from hs) Bool.false_ne_true
  | str i =>
    obtain ⟨t, rfl⟩ := rx
    cases y with
    | non => cases ry; exact PySem.EqNone.eq_str_none (fin_bl I q (by simp))
    | bl j => cases ry; exact PySem.EqMixed.eq_str_bool (fin_bl I q (by simp))
    | int j => obtain ⟨t', rfl⟩ := ry; exact PySem.EqMixed.eq_str_int (fin_bl I q (by simp))
    | str j => obtain ⟨t', rfl⟩ := ry; exact eq_str (fin_bl I q dec_str)
    | _ => exact absurd (show false = true from hs) Bool.false_ne_true
  | byt i =>
    obtain ⟨t, rfl⟩ := rx
    cases y with
    | byt j => obtain ⟨t', rfl⟩ := ry; exact PySem.W.eq_bytes (fin_bl I q dec_byt)
    | _ => exact absurd (show false = true from hs) Bool.false_ne_true
  | _ => cases y <;> exact absurd (show false = true from hs) Bool.false_ne_true
theorem op_ne : OpR X (compareOp .NotEq) rNe := by
  intro pins s σ H x y v u Q I rx ry h
  obtain ⟨hs, q⟩ := h
  cases x with
  | non =>
    cases rx
    cases y with
    | non => cases ry; exact PySem.EqNone.ne_none_none (fin_bl I q (by simp))
    | bl j => cases ry; exact PySem.EqNone.ne_none_bool (fin_bl I q (by simp))
    | int j => obtain ⟨t', rfl⟩ := ry; exact PySem.EqNone.ne_none_int (fin_bl I q (by simp))
    | str j => obtain ⟨t', rfl⟩ := ry; exact PySem.EqNone.ne_none_str (fin_bl I q (by simp))
    | _ => exact absurd (show false = true from hs) Bool.false_ne_true
  | bl i =>
    cases rx
    cases y with
    | non => cases ry; exact PySem.EqNone.ne_bool_none (fin_bl I q (by simp))
    | bl j => cases ry; exact ne_bool (fin_bl I q (congrArg not dec_bl))
    | str j => obtain ⟨t', rfl⟩ := ry; exact PySem.EqMixed.ne_bool_str (fin_bl I q (by simp))
    | _ => exact absurd (show false = true from hs) Bool.false_ne_true
  | int i =>
    obtain ⟨t, rfl⟩ := rx
    cases y with
    | non => cases ry; exact PySem.EqNone.ne_int_none (fin_bl I q (by simp))
    | int j => obtain ⟨t', rfl⟩ := ry; exact ne_int (fin_bl I q (congrArg not dec_int))
    | str j => obtain ⟨t', rfl⟩ := ry; exact PySem.EqMixed.ne_int_str (fin_bl I q (by simp))
    | _ => exact absurd (show false = true from hs) Bool.false_ne_true
  | str i =>
    obtain ⟨t, rfl⟩ := rx
    cases y with
    | non => cases ry; exact PySem.EqNone.ne_str_none (fin_bl I q (by simp))
    | bl j => cases ry; exact PySem.EqMixed.ne_str_bool (fin_bl I q (by simp))
    | int j => obtain ⟨t', rfl⟩ := ry; exact PySem.EqMixed.ne_str_int (fin_bl I q (by simp))
    | str j => obtain ⟨t', rfl⟩ := ry; exact ne_str (fin_bl I q (congrArg not dec_str))
    | _ => exact absurd (show false = true from hs) Bool.false_ne_true
  | byt i =>
    obtain ⟨t, rfl⟩ := rx
    cases y with
    | byt j => obtain ⟨t', rfl⟩ := ry; exact PySem.W.ne_bytes (fin_bl I q (congrArg not dec_byt))
    | _ => exact absurd (show false = true from hs) Bool.false_ne_true
  | _ => cases y <;> exact absurd (show false = true from hs) Bool.false_ne_true
theorem op_lt : OpR X (compareOp .Lt) (rI0 fun i j => .bl (decide (i < j))) := opB0 fun _ _ _ _ _ _ _ q => lt_int q
theorem op_gt : OpR X (compareOp .Gt) (rI0 fun i j => .bl (decide (j < i))) := opB0 fun _ _ _ _ _ _ _ q => gt_int q
theorem op_ge : OpR X (compareOp .GtE) (rI0 fun i j => .bl (decide (j <= i))) := opB0 fun _ _ _ _ _ _ _ q => ge_int q
theorem op_in_str : OpR X (compareOp .In) (fun x y H Q => ∃ i j, x = .str i /\ y = .str j /\ Q (.bl (!(Builtin.Str.occurrences j i 0 j.length 1).isEmpty)) H) := by
  intro pins s σ H x y v u Q I rx ry h
  obtain ⟨i, j, rfl, rfl, q⟩ := h
  obtain ⟨t, rfl⟩ := rx
  obtain ⟨t', rfl⟩ := ry
  exact in_str (fin_bl I q rfl)
theorem op_notN : OpR X (compareOp .IsNot) (fun x y H Q => y = .non /\ Q (.bl (!decide (x = .non))) H) := by
  intro pins s σ H x y v u Q I rx ry h
  obtain ⟨rfl, q⟩ := h
  cases ry
  refine isnot_none_gen (fin_bl I q ?_)
  cases x <;> first
    | (cases rx; rfl)
    | (obtain ⟨t, rfl⟩ := rx; rfl)
theorem nomark (b : Expr) {op : CmpOp} (h : op ≠ .In := by decide) (h2 : op ≠ .NotIn := by decide) : behindInMarks op b = false := by
  have e1 : (op == CmpOp.In) = false := by cases op <;> first | rfl | exact absurd rfl h
  have e2 : (op == CmpOp.NotIn) = false := by cases op <;> first | rfl | exact absurd rfl h2
  cases b <;> simp [behindInMarks, e1, e2]
theorem pe_cmpR {op : CmpOp} {r : R2} (ho : OpR X (compareOp op) r) (ha : PE X a ta) (hb : PE X b tb) (hm : behindInMarks op b = false) : PE X (.Compare a [op] [b] pos) (tOp r ta tb) := by
  intro pins s σ H Q I h
  exact wpAny_Compare1 (binT ha hb I h fun v u s2 x y H2 I2 rx ry q => ho pins s2 σ H2 x y v u Q I2 rx ry q) hm
noncomputable def tTest (t : TE) : TT := fun σ H Q => t σ H fun x H' => ∃ k, x = .bl k /\ Q k H'
theorem pt_cmpR {op : CmpOp} {r : R2} (ho : OpR X (compareOp op) r) (ha : PE X a ta) (hb : PE X b tb) (hm : behindInMarks op b = false) : PT X (.Compare a [op] [b] pos) (tTest (tOp r ta tb)) := by
  intro pins s σ H Q I h
  refine wpAny_isTrue_Compare1 (thn (ha pins s σ H _ I h) fun v s1 ⟨x, H1, I1, r1, q1⟩ => thn (hb pins s1 σ H1 _ I1 q1) fun u s2 ⟨y, H2, I2, r2, q2⟩ =>
    thn (ho pins s2 σ H2 x y v u _ I2 r1 r2 q2) fun c s3 ⟨z, H3, I3, r3, k, e, q3⟩ => ?_) hm
  subst e
  cases r3
  exact wpAny_truthy_bool ⟨H3, I3, q3⟩
noncomputable def tChain (r r' : R2) (ta tb tc : TE) : TE := fun σ H Q => ta σ H fun x H1 => tb σ H1 fun y H2 => r x y H2 fun z H3 => ∃ k, z = .bl k /\
  (if k = true then tc σ H3 fun w' H4 => r' y w' H4 Q else Q (.bl false) H3)
theorem pe_chain {op op' : CmpOp} {r r' : R2} (ho : OpR X (compareOp op) r) (ho' : OpR X (compareOp op') r') (ha : PE X a ta) (hb : PE X b tb) (hc : PE X c tc)
    (hm : lastMarks [op, op'] [b, c] = false := by with_unfolding_all rfl) : PE X (.Compare a [op, op'] [b, c] pos) (tChain r r' ta tb tc) := by
  intro pins s σ H Q I h
  refine Compare_chain (thn (ha pins s σ H _ I h) fun v s1 ⟨x, H1, I1, r1, q1⟩ => chain_link (thn (hb pins s1 σ H1 _ I1 q1) fun u s2 ⟨y, H2, I2, r2, q2⟩ =>
    thn (ho pins s2 σ H2 x y v u _ I2 r1 r2 q2) fun d s3 ⟨z, H3, I3, r3, k, e, q3⟩ => ?_)) hm
  subst e
  cases r3
  refine wpAny_truthy_bool ?_
  cases k with
  | false => exact ite_ff ⟨.bl false, H3, I3, rfl, q3⟩
  | true => exact ite_tt (chain_last (thn (hc pins s3 σ H3 _ I3 q3) fun w' s4 ⟨z', H4, I4, r4, q4⟩ => ho' pins s4 σ H4 y z' u w' Q I4 r2 r4 q4))
theorem line63 : (sizeLine : Nat) < 2 ^ 63 := by rw [sizeLine_eq]; decide
theorem op_add_str : OpR X (binaryOp .Add) (fun x y H Q => ∃ i j, x = .str i /\ y = .str j /\ i.length + j.length <= sizeLine /\ Q (.str (i ++ j)) H) := by
  intro pins s σ H x y v u Q I rx ry h
  obtain ⟨i, j, rfl, rfl, hz, q⟩ := h
  obtain ⟨t, rfl⟩ := rx
  obtain ⟨t', rfl⟩ := ry
  exact add_str (fun t' tk => ⟨.str (i ++ j), H, I.tok _, ⟨_, rfl⟩, q⟩) hz
theorem vals1 {x : V} {us : List Value} (r : Vals [x] us) : ∃ u, us = [u] /\ RelV x u := by
  cases r with
  | cons r1 r2 => cases r2; exact ⟨_, rfl, r1⟩
theorem vals2 {x y : V} {us : List Value} (r : Vals [x, y] us) : ∃ u w', us = [u, w'] /\ RelV x u /\ RelV y w' := by
  cases r with
  | cons r1 r2 =>
    cases r2 with
    | cons r3 r4 => cases r4; exact ⟨_, _, rfl, r1, r3⟩
theorem call_max2 (hc : X.calm = true) : CallR X (.builtin "max") (fun xs H Q => ∃ i j, xs = [.int i, .int j] /\ Q (.int (if j > i then j else i)) H) := by
  intro pins s σ H xs us Q I r h
  obtain ⟨i, j, rfl, q⟩ := h
  obtain ⟨u, w', rfl, ⟨t, rfl⟩, ⟨t', rfl⟩⟩ := vals2 r
  refine max_two_ints (I.ok.hd hc) fun h' tk k => ⟨_, H, I.kept k, ?_, q⟩
  by_cases hj : j > i
  · rw [if_pos hj, if_pos hj]; exact ⟨_, rfl⟩
  · rw [if_neg hj, if_neg hj]; exact ⟨_, rfl⟩
theorem call_min2 (hc : X.calm = true) : CallR X (.builtin "min") (fun xs H Q => ∃ i j, xs = [.int i, .int j] /\ Q (.int (if j < i then j else i)) H) := by
  intro pins s σ H xs us Q I r h
  obtain ⟨i, j, rfl, q⟩ := h
  obtain ⟨u, w', rfl, ⟨t, rfl⟩, ⟨t', rfl⟩⟩ := vals2 r
  refine min_two_ints (I.ok.hd hc) fun h' tk k => ⟨_, H, I.kept k, ?_, q⟩
  by_cases hj : j < i
  · rw [if_pos hj, if_pos hj]; exact ⟨_, rfl⟩
  · rw [if_neg hj, if_neg hj]; exact ⟨_, rfl⟩
theorem call_int1 : CallR X (.type "int") (fun xs H Q => (∃ i, xs = [.int i] /\ Q (.int i) H) \/ ∃ k, xs = [.bl k] /\ Q (.int (if k then 1 else 0)) H) := by
  intro pins s σ H xs us Q I r h
  rcases h with ⟨i, rfl, q⟩ | ⟨k, rfl, q⟩
  · obtain ⟨u, rfl, t, rfl⟩ := vals1 r
    exact call_int_int ⟨.int i, H, I, ⟨_, rfl⟩, q⟩
  · obtain ⟨u, rfl, r1⟩ := vals1 r
    cases r1
    exact call_int_bool ⟨.int (if k then 1 else 0), H, I.tok _, ⟨_, rfl⟩, q⟩
end
end L2
namespace L2
open PySem PySem.Spec PyProof.Rows
structure ObjM (h : Heap) (x dx C : Addr) (mA : Str -> Option Value) : Prop where
  obj : h.get? x = some (PySem.W.instObj C dx)
  ns : h.Ns1 dx mA
  ne : dx ≠ x
section
variable {prog : Program} {w : World} {A : Around} {E : Value -> Shared -> Prop} {s : Shared} {K : PySem.W.Frag} {x dx C f : Addr} {mA : Str -> Option Value} {name : Str} {v : Value}
end
noncomputable def putF (f : Str) (v : V) : List (Str × V) -> List (Str × V)
  | [] => [(f, v)]
  | (g, x) :: r => if g = f then (g, v) :: r else (g, x) :: putF f v r
theorem RelO.some_of {v : V} {o : Option Value} (r : RelO (some v) o) : ∃ u, o = some u /\ RelV v u := by
  cases o with
  | none => exact (show False from r).elim
  | some u => exact ⟨u, rfl, r⟩
section
variable {P : Program} {w : World} {H H' : Hp} {h h' : Heap} {a C dx : Addr} {fs fs' : List (Str × V)}
end
structure Cls (K : PySem.W.Frag) (C : Addr) : Prop where
  pg : PySem.W.plainGet K C Str.empty = true
  hd : PySem.W.hasDictIn K C = true
  po : PySem.W.plainOver K C = true
  sa : PySem.W.findIn K (.ref C) "__setattr__" = some (some (.builtin "object.__setattr__"))
structure Con (K : PySem.W.Frag) (C : Addr) (f : Str) (v : V) (u : Value) : Prop where
  at_ : PySem.W.findIn K (.ref C) f = some (some u)
  rel : RelV v u
  get : PySem.W.specialIn K u "__get__" = some none
  cp : PySem.W.copiedNames.contains f = false
structure Meth (K : PySem.W.Frag) (C : Addr) (m : Str) (f : Addr) : Prop where
  at_ : PySem.W.findIn K (.ref C) m = some (some (.ref f))
  fn : PySem.W.isFn K (.ref f) = true
  kp : PySem.W.keepIn K (.ref f) = true
section
variable {X : Cx} {pins : List (Addr × Obj)} {σ : St} {H : Hp} {s : Shared} {a C dx : Addr} {fs : List (Str × V)} {f : Str} {v : V} {A : Around} {E : Value -> Shared -> Prop}
end
section
variable {X : Cx} {o e value : Expr} {f : Str} {pos pos' tpos : Pos} {ta tv : TE}
end
section
variable {X : Cx} {pins : List (Addr × Obj)} {σ : St} {H : Hp} {s : Shared} {A : Around} {E : Value -> Shared -> Prop} {Q : Value -> Shared -> Prop} {c : Value} {b : Bool}
inductive TyOf (K : PySem.W.Frag) (H : Hp) : V -> Value -> Prop where
  | non : TyOf K H .non (.type "NoneType")
  | bl (x : Bool) : TyOf K H (.bl x) (.type "bool")
  | int (i : Int) : TyOf K H (.int i) (.type "int")
  | str (x : Str) : TyOf K H (.str x) (.type "str")
  | flt (x : UInt64) : TyOf K H (.flt x) (.type "float")
  | lst {a : Addr} {xs : List V} (e : H a = some (.lst xs)) : TyOf K H (.ref a) (.type "list")
  | frz {a : Addr} {o : Obj} {xs : List V} (e : H a = some (.frz o (.lst xs))) : TyOf K H (.ref a) (.type "list")
  | tup {a : Addr} {xs : List V} (e : H a = some (.tup xs)) : TyOf K H (.ref a) (.type "tuple")
  | dK {a : Addr} {kvs : List (Key × V)} (e : H a = some (.dK kvs)) : TyOf K H (.ref a) (.type "dict")
  | dT {a : Addr} {kvs : List (List Key × V)} (e : H a = some (.dT kvs)) : TyOf K H (.ref a) (.type "dict")
  | ins {a C dx : Addr} {fs : List (Str × V)} (e : H a = some (.ins C dx fs)) (cl : Cls K C) (ha : PySem.W.findIn K (.ref C) "__class__" = some (some (.builtin "object.__class__")))
      (hn : PySem.W.specialIn K (.builtin "object.__class__") "__get__" = some (some (.builtin "getset_descriptor.__get__"))) (htk : PySem.W.takesIn K (.builtin "object.__class__") = some true)
      (hm : PySem.W.mroIn K C (.type "object") = some true) : TyOf K H (.ref a) (.ref C)
end
end L2
namespace L2
open PySem PySem.Spec PyProof.Rows
structure Room (k : Nat) (A : Around) : Prop where
  hd : A.handled = none
  dp : A.depth + 3 * k + 5 < recursionLimit
  un : A.units + 16 * k + 200 < cLine
  gd : A.guards = some []
theorem Room.mono {j k : Nat} {A : Around} (r : Room k A) (h : j <= k) : Room j A := ⟨r.hd, by have := r.dp; omega, by have := r.un; omega, r.gd⟩
theorem Room.deeper {k : Nat} {A : Around} (r : Room (k + 1) A) (env : Env) : Room k (A.deeper env) :=
  ⟨r.hd, by have := r.dp; show A.depth + 1 + 3 * k + 5 < _; omega, by have := r.un; show A.units + 3 + 16 * k + 200 < _; omega, r.gd⟩
theorem Room.depth {k : Nat} {A : Around} (r : Room k A) : A.depth < recursionLimit := by have := r.dp; omega
theorem Room.units {k : Nat} {A : Around} (r : Room k A) : A.units + 64 < cLine := by have := r.un; omega
noncomputable def tNil : TA := fun _ H Q => Q [] H
noncomputable def tCons (ta : TE) (tr : TA) : TA := fun σ H Q => ta σ H fun x H1 => tr σ H1 fun xs H2 => Q (x :: xs) H2
section
variable {X : Cx} {e : Expr} {es : List Expr} {te : TE} {t : TA} {pos : Pos}
theorem pa_nil : PA X [] tNil := fun _ _ _ _ H Q I h => Calls.spliced_nil ⟨[], H, I, .nil, h⟩
theorem pa_cons (ha : PE X e te) (hr : PA X es t) (hs : starEach (e :: es) X.env = (false, eval e X.env) :: starEach es X.env := by rfl) : PA X (e :: es) (tCons te t) := by
  intro pos pins s σ H Q I h
  rw [hs]
  show wpAny _ _ (spliced ((false, eval e X.env) :: backTo pos (starEach es X.env))) _ _ s
  refine Calls.spliced_cons (thn (ha pins s σ H _ I h) fun u s1 ⟨x, H1, I1, r1, q1⟩ => ?_)
  exact thn (hr pos pins s1 σ H1 _ I1 q1) fun us s2 ⟨xs, H2, I2, r2, q2⟩ => ⟨x :: xs, H2, I2, .cons r1 r2, q2⟩
noncomputable def tTup (t : TA) : TE := fun σ H Q => t σ H fun xs H1 => xs.length <= sizeLine /\ ∀ p, H1 p = none -> Q (.ref p) (upd H1 p (.tup xs))
noncomputable def tLst (t : TA) : TE := fun σ H Q => t σ H fun xs H1 => xs.length <= sizeLine /\ ∀ p, H1 p = none -> Q (.ref p) (upd H1 p (.lst xs))
theorem pe_tup {x1} (h : PA X es t) : PE X (.Tuple es x1 pos) (tTup t) := by
  intro pins s σ H Q I hq
  refine wpAny_Tuple_spliced (thn (h pos pins s σ H _ I hq) fun us s1 ⟨xs, H1, I1, r, z, q⟩ => ⟨by rw [<- r.length]; exact z, ?_⟩)
  have hf : H1 s1.heap.objs.size = none := I1.hok.fresh (Nat.le_refl _)
  refine ⟨.ref s1.heap.objs.size, upd H1 s1.heap.objs.size (.tup xs), I1.laid (t' := s1.toks) (fun b u e => Heap.get?_push_of_some _ e) (Nat.le_refl _) ?_, rfl, q _ hf⟩
  exact ⟨z, us, r, ⟨_, Heap.get?_push_size _ rfl, rfl, _, rfl⟩⟩
theorem pe_lst (h : PA X es t) : PE X (.List es pos) (tLst t) := by
  intro pins s σ H Q I hq
  refine wpAny_List_spliced (thn (h pos pins s σ H _ I hq) fun us s1 ⟨xs, H1, I1, r, z, q⟩ => ⟨by rw [<- r.length]; exact z, ?_⟩)
  have hf : H1 s1.heap.objs.size = none := I1.hok.fresh (Nat.le_refl _)
  refine ⟨.ref s1.heap.objs.size, upd H1 s1.heap.objs.size (.lst xs), I1.laid (t' := s1.toks) (fun b u e => Heap.get?_push_of_some _ e) (Nat.le_refl _) ?_, rfl, q _ hf⟩
  exact ⟨z, us, 0, r, Heap.get?_push_size _ rfl⟩
end
noncomputable abbrev Sp := List V -> Hp -> VK -> XK -> Prop
noncomputable abbrev CXT := List Env -> Hp -> Shared -> XK -> Value -> Shared -> Prop
structure Env0 (P : Program) (w : World) (K : PySem.W.Frag) (mg : Str -> Option Value) (base : Heap) (A : Around) (outer : List Env) (s : Shared) (H : Hp) : Prop where
  frames : A.frames = some outer
  mod : Mod K mg base
  bs : ∀ b o, base.get? b = some o -> s.heap.get? b = some o /\ H b = none
  bsz : base.objs.size <= s.heap.objs.size
  funs : s.heap.FunFrames base outer
  frf : ∀ b ∈ frs outer, H b = none
  hok : HOk P w H s.heap
  bare : AllBare s.gens
noncomputable def CE (outer : List Env) (P : Program) (w : World) (H : Hp) (s : Shared) (Q : VK) (u : Value) (s' : Shared) : Prop :=
  ∃ v H', s'.os = s.os /\ AllBare s'.gens /\ Un (frs outer) [] H H' s.heap s'.heap /\ HOk P w H' s'.heap /\ RelV v u /\ Q v H'
noncomputable def CR (CX : CXT) (outer : List Env) (P : Program) (w : World) (H : Hp) (s : Shared) (Q : VK) (E : XK) (r : Result) (s' : Shared) : Prop :=
  match r with
  | .ok (.ret u) => CE outer P w H s Q u s'
  | .ok _ => False
  | .error e => CX outer H s E e s'
structure FnOk (P : Program) (w : World) (K : PySem.W.Frag) (mg : Str -> Option Value) (base : Heap) (CX : CXT) (k : Nat) (f : Addr) (fd : FuncData) (ps : List Str) (sp : Sp) : Prop where
  len : ∀ vs H Q E, sp vs H Q E -> vs.length = ps.length
  run : ∀ (A : Around) (outer : List Env) (s : Shared) (H : Hp) (args : Args) (us : List Value) (vs : List V) (Q : VK) (E : XK), Room k A -> Env0 P w K mg base A outer s H -> BindsTo s fd args (ps.zip us) -> Vals vs us -> sp vs H Q E ->
    codeAny (model P w) A (.call (.ref f) args) (CR CX outer P w H s Q E) s
section
variable {X : Cx} {pins : List (Addr × Obj)} {σ : St} {H : Hp} {s s' : Shared}
theorem Inv.env0 (I : Inv X pins σ H s) : Env0 X.prog X.w X.K X.mg X.base X.A X.stack s H :=
  ⟨I.ok.frames, I.ok.mod, I.bs, Nat.le_trans I.ok.bsz I.sz, I.stack, I.stkFree, I.hok, I.bare⟩
theorem Inv.after {Q : VK} {u : Value} (I : Inv X pins σ H s) (h : CE X.stack X.prog X.w H s Q u s') : EP X pins σ Q u s' := by
  obtain ⟨v, H', os, bare, un, hok, r, q⟩ := h
  obtain ⟨hh, g, d, t, os'⟩ := s'
  obtain rfl : os' = s.os := os
  exact ⟨v, H', I.call (h' := hh) (g' := g) (d' := d) (t' := t) (ch := []) un hok bare (fun b z => absurd z (by simp)), r, q⟩
end
noncomputable def tCall (sp : Sp) (dvs : List V) (E : XK) (t : TA) : TE := fun σ H Q => t σ H fun vs H1 => sp (vs ++ dvs) H1 Q E
noncomputable def Binds (K : PySem.W.Frag) (fd : FuncData) (ps : List Str) (ds : List Value) : Prop :=
  ∀ (s : Shared) (us : List Value), K.In s.heap -> (us ++ ds).length = ps.length -> BindsTo s fd ⟨us, []⟩ (ps.zip (us ++ ds))
theorem Binds.all {K : PySem.W.Frag} {fd : FuncData} {ps : List Str} (h : ∀ us : List Value, us.length = ps.length -> bindArgs fd ⟨us, []⟩ = pure (ps.zip us)) : Binds K fd ps [] := fun s us _ hl => by
  rw [List.append_nil] at hl ⊢
  exact .of_eq (h us hl)
noncomputable def Passes (CX : CXT) (X : Cx) (E : XK) : Prop := ∀ (pins : List (Addr × Obj)) (σ : St) (H : Hp) (s : Shared) (e : Value) (s' : Shared), Inv X pins σ H s -> CX X.stack H s E e s' -> X.xe e s'
section
variable {X : Cx} {CX : CXT} {k : Nat} {f C : Addr} {fd : FuncData} {ps : List Str} {sp : Sp} {dvs : List V} {ds : List Value} {E : XK} {x m : Str} {p pos apos : Pos} {e o : Expr} {es : List Expr} {ta : TE} {t : TA}
theorem run_fn {pins : List (Addr × Obj)} {σ : St} {H : Hp} {s : Shared} {Q : VK} {us : List Value} {vs : List V} (F : FnOk X.prog X.w X.K X.mg X.base CX k f fd ps sp) (hr : Room k X.A) (hb : Binds X.K fd ps ds) (hd : Vals dvs ds) (hx : Passes CX X E)
    (I : Inv X pins σ H s) (r : Vals vs us) (h : sp (vs ++ dvs) H Q E) : wpAny (model X.prog X.w) X.A (call (.ref f) us) (EP X pins σ Q) X.xe s := by
  have r2 : Vals (vs ++ dvs) (us ++ ds) := r.append hd
  have hl : (us ++ ds).length = ps.length := by rw [<- r2.length]; exact F.len _ _ _ _ h
  refine wpAny_call (codeAny_mono (F.run X.A X.stack s H ⟨us, []⟩ (us ++ ds) (vs ++ dvs) Q E hr I.env0 (hb s us I.kIn hl) r2 h) fun r s' hq => ?_)
  cases r with
  | error e => exact hx pins σ H s e s' I hq
  | ok fl =>
    cases fl with
    | ret u => exact I.after hq
    | next => exact False.elim hq
    | brk => exact False.elim hq
    | cont => exact False.elim hq
theorem pe_call (F : FnOk X.prog X.w X.K X.mg X.base CX k f fd ps sp) (hr : Room k X.A) (hg : Gl X x) (hm : X.mg x = some (.ref f)) (hk : PySem.W.keepIn X.K (.ref f) = true) (hb : Binds X.K fd ps ds) (hd : Vals dvs ds) (hx : Passes CX X E)
    (ha : PA X (e :: es) t) (hdb : (x == ("__debug__" : Str)) = false := by decide) (he : starEach (e :: es) X.env = (false, eval e X.env) :: starEach es X.env := by rfl) (hpl : (backTo pos (starEach es X.env)).any (·.1) = false := by rfl) :
    PE X (.Call (.Name x p) (e :: es) [] pos) (tCall sp dvs E t) := by
  intro pins s σ H Q I h
  refine wpAny_Call_Name_kw (ld_glob I hg hm ?_ hdb)
  refine PySem.W.callWith_K (h₀ := X.base) I.ok.mod.kin hk (thn (ha pos pins s σ H _ I h) fun us s1 ⟨vs, H1, I1, r, q⟩ => ⟨I1.kIn, ?_⟩) he hpl
  exact run_fn F hr hb hd hx I1 r q
structure Mk (K : PySem.W.Frag) (C f : Addr) : Prop where
  makes : PySem.W.makesIn K C = true
  init : PySem.W.findIn K (.ref C) "__init__" = some (some (.ref f))
  fn : PySem.W.isFn K (.ref f) = true
  kp : PySem.W.keepIn K (.ref C) = true
end
section
variable {X : Cx} {CX : CXT} {k : Nat} {f C : Addr} {fd : FuncData} {ps ks : List Str} {sp : Sp} {E : XK} {x m : Str} {p pos apos kpos : Pos} {e o : Expr} {es : List Expr} {kws : List Keyword} {te ta : TE} {t tk : TA} {nm : Option Str}
structure KBinds (K : PySem.W.Frag) (fd : FuncData) (ps ks : List Str) (g : List Value -> List Value -> List Value) (gV : List V -> List V -> List V) : Prop where
  to : ∀ (s : Shared) (us ws : List Value), K.In s.heap -> (g us ws).length = ps.length -> BindsTo s fd ⟨us, ks.zip ws⟩ (ps.zip (g us ws))
  rel : ∀ {vs : List V} {us : List Value} {zs : List V} {ws : List Value}, Vals vs us -> Vals zs ws -> Vals (gV vs zs) (g us ws)
variable {g : List Value -> List Value -> List Value} {gV : List V -> List V -> List V}
end
structure FnScope (N P : List Str) (sc : Scope) : Prop where
  kind : sc.kind = .function
  co : sc.isCoroutine = false
  gen : sc.isGenerator = false
  nd : N.Nodup
  pre : N.take P.length = P
  par : ∀ x ∈ P, sc.names.lookup x = some .local \/ sc.names.lookup x = some .cell
  nofree : ∀ y ∈ sc.names, y.2 ≠ .free
theorem bindL_out {kindOf : Str -> Option NameKind} {x : Str} : ∀ {binds : List (Str × Value)} {m : Str -> Option Value}, (∀ v, (x, v) ∉ binds) -> bindL kindOf binds m x = m x
  | [], _, _ => rfl
  | (n, v) :: r, m, h => by
    unfold bindL
    rw [bindL_out fun w hw => h w (List.mem_cons_of_mem _ hw)]
    split
    · have : x ≠ n := by rintro rfl; exact h v List.mem_cons_self
      simp [this]
    · rfl
theorem bindC_out {kindOf : Str -> Option NameKind} {x : Str} : ∀ {binds : List (Str × Value)} {m : Str -> Option Value}, (∀ v, (x, v) ∉ binds) -> bindC kindOf binds m x = m x
  | [], _, _ => rfl
  | (n, v) :: r, m, h => by
    unfold bindC
    rw [bindC_out fun w hw => h w (List.mem_cons_of_mem _ hw)]
    split
    · rfl
    · have : x ≠ n := by rintro rfl; exact h v List.mem_cons_self
      simp [this]
theorem bindL_get {kindOf : Str -> Option NameKind} {x : Str} {v : Value} : ∀ {P : List Str} {vs : List Value} {i : Nat} {m : Str -> Option Value}, P.Nodup -> P[i]? = some x -> vs[i]? = some v -> kindOf x = some .local ->
    bindL kindOf (P.zip vs) m x = some v
  | [], _, _, _, _, h, _, _ => by simp at h
  | _ :: _, [], _, _, _, _, h, _ => by simp at h
  | p :: P, w :: vs, 0, m, nd, h1, h2, hk => by
    simp at h1 h2; subst h1; subst h2
    show bindL kindOf ((p, w) :: P.zip vs) m p = _
    unfold bindL
    rw [bindL_out fun v hv => (List.nodup_cons.mp nd).1 (List.of_mem_zip hv).1, if_pos hk]
    simp
  | p :: P, w :: vs, i + 1, m, nd, h1, h2, hk => by
    show bindL kindOf ((p, w) :: P.zip vs) m x = _
    unfold bindL
    exact bindL_get (i := i) (List.nodup_cons.mp nd).2 (by simpa using h1) (by simpa using h2) hk
theorem bindC_get {kindOf : Str -> Option NameKind} {x : Str} {v : Value} : ∀ {P : List Str} {vs : List Value} {i : Nat} {m : Str -> Option Value}, P.Nodup -> P[i]? = some x -> vs[i]? = some v -> kindOf x ≠ some .local ->
    bindC kindOf (P.zip vs) m x = some v
  | [], _, _, _, _, h, _, _ => by simp at h
  | _ :: _, [], _, _, _, _, h, _ => by simp at h
  | p :: P, w :: vs, 0, m, nd, h1, h2, hk => by
    simp at h1 h2; subst h1; subst h2
    show bindC kindOf ((p, w) :: P.zip vs) m p = _
    unfold bindC
    rw [bindC_out fun v hv => (List.nodup_cons.mp nd).1 (List.of_mem_zip hv).1, if_neg hk]
    simp
  | p :: P, w :: vs, i + 1, m, nd, h1, h2, hk => by
    show bindC kindOf ((p, w) :: P.zip vs) m x = _
    unfold bindC
    exact bindC_get (i := i) (List.nodup_cons.mp nd).2 (by simpa using h1) (by simpa using h2) hk
noncomputable def start (N : List Str) (vs : List V) : St := vs.map some ++ List.replicate (N.length - vs.length) none
noncomputable def cxOf (CX : CXT) (P : Program) (w : World) (K : PySem.W.Frag) (mg : Str -> Option Value) (base : Heap) (N : List Str) (qual : Str) (scope : Scope) (f : Addr) (cd : Value) (A : Around) (outer : List Env) (s : Shared) (H : Hp) (E : XK) : Cx where
  prog := P
  w := w
  K := K
  mg := mg
  base := base
  A := A.deeper (envOfC qual scope s.heap.objs.size f cd)
  N := N
  s₀ := s
  H₀ := H
  env := envOfC qual scope s.heap.objs.size f cd
  outer := outer
  stack := envOfC qual scope s.heap.objs.size f cd :: outer
  ex := []
  calm := true
  fn := fun _ => true
  pn := []
  xe := fun e s' => wpAny (model P w) (A.deeper (envOfC qual scope s.heap.objs.size f cd)) (leaving (envOfC qual scope s.heap.objs.size f cd) e) (fun _ s'' => CX outer H s E e s'') (fun e' s'' => CX outer H s E e' s'') s'
theorem cell_has {sc : Scope} {n : Nat} {x : Str} (h : sc.names.lookup x = some .cell) : ∃ c, (cellsFrom n sc.names []).lookup x = some c := by
  have q := PySem.W.cellsFrom_some sc.names n [] (.inl h)
  exact Option.isSome_iff_exists.mp q
theorem inv_start {CX : CXT} {P : Program} {w : World} {K : PySem.W.Frag} {mg : Str -> Option Value} {base : Heap} {N ps : List Str} {qual : Str} {scope : Scope} {f : Addr} {cd : Value} {A : Around} {outer : List Env} {s s1 : Shared} {H : Hp} {E : XK} {us : List Value} {vs : List V}
    (S : FnScope N ps scope) (hd : A.handled = none) (e0 : Env0 P w K mg base A outer s H) (hl : vs.length = ps.length) (r : Vals vs us)
    (x : InCallC s s.heap.objs.size (bindL (envOfC qual scope s.heap.objs.size f cd).kindOf (ps.zip us) fun _ => none) (cellsFrom (s.heap.objs.size + 1) scope.names []) (bindC (envOfC qual scope s.heap.objs.size f cd).kindOf (ps.zip us) fun _ => none) s1) :
    Inv (cxOf CX P w K mg base N qual scope f cd A outer s H E) [] (start N vs) H s1 := by
  have hpl : ps.length <= N.length := by have := congrArg List.length S.pre; rw [List.length_take] at this; omega
  obtain ⟨h1, tk, rfl, hk⟩ := x.done
  have noA : ∀ b : Addr, b ∉ (cxOf CX P w K mg base N qual scope f cd A outer s H E).ex := fun b z => absurd (show b ∈ ([] : List Addr) from z) (by simp)
  refine ⟨⟨e0.mod, S.kind, rfl, rfl, Nat.le_refl _, fun y z c h1 h2 => ?_, fun y hy => ?_, fun y c _ h => ?_, fun _ => hd, Around.frames_deeper e0.frames, .inr ⟨rfl, rfl⟩, fun b z => absurd z (noA b), e0.bs, e0.bsz, fun b _ _ => noA b, fun b z => absurd z (noA b), e0.funs, e0.frf⟩,
    rfl, e0.bare, Un.kept hk, ⟨_, x.toInCall.ns, fun i y v h1 h2 h3 => ?_⟩, fun y c h => ⟨_, x.cell y c h⟩, e0.hok.fresh (Nat.le_refl _), fun y c h => ?_, fun p hp => absurd (show p ∈ ([] : List (Addr × Obj)) from hp) (by simp), e0.hok.kept hk, ?_⟩
  · exact name_of_addr x.apart (PySem.mem_of_lookup h1) (PySem.mem_of_lookup h2)
  · have hy : scope.names.lookup y = some .cell \/ scope.names.lookup y = some .free := hy
    rcases hy with hy | hy
    · exact cell_has hy
    · exact absurd rfl (S.nofree _ (PySem.mem_of_lookup hy))
  · exact Nat.le_of_lt (x.above y c (PySem.mem_of_lookup h))
  · have hi : i < vs.length := by
      unfold start at h2
      by_cases hi : i < vs.length
      · exact hi
      · rw [List.getElem?_append_right (by simpa using hi)] at h2
        rw [List.getElem?_replicate] at h2
        split at h2 <;> cases h2
    have ha : vs[i]? = some v := by
      unfold start at h2
      rw [List.getElem?_append_left (by simpa using hi), List.getElem?_map] at h2
      cases e : vs[i]? with
      | none => rw [e] at h2; cases h2
      | some a => rw [e] at h2; cases h2; rfl
    obtain ⟨u, hu, rv⟩ := r.get ha
    have hp : ps[i]? = some y := by
      rw [<- S.pre, List.getElem?_take_of_lt (by omega)]; exact h1
    have ndP : ps.Nodup := by rw [<- S.pre]; exact S.nd.sublist (List.take_sublist _ _)
    refine ⟨u, rv, ?_⟩
    rcases S.par y (List.mem_of_getElem? hp) with k | k
    · exact .inl ⟨k, bindL_get ndP hp hu k⟩
    · obtain ⟨c, e⟩ := cell_has (n := s.heap.objs.size + 1) k
      refine .inr ⟨.inl k, c, e, ?_⟩
      have q := x.cell y c e
      rw [bindC_get ndP hp hu (by show scope.names.lookup y ≠ _; rw [k]; decide)] at q
      exact q
  · exact e0.hok.fresh (Nat.le_of_lt (x.above y c (PySem.mem_of_lookup h)))
  · unfold start
    show _ = N.length
    rw [List.length_append, List.length_map, List.length_replicate]
    omega
theorem fn_of {CX : CXT} {P : Program} {w : World} {K : PySem.W.Frag} {mg : Str -> Option Value} {base : Heap} {k : Nat} {f : Addr} {name qual : Str} {params : Arguments} {body : List Stmt} {scope : Scope} {dV kV doc pm cdv ct oc : Value} {an od : Option Addr}
    {osl : Array (Option Value)} {N ps : List Str} {sp : Sp} (lk : K.lookup f = some ⟨oc, od, .func (PySem.W.fnOf name qual params body scope dV kV doc pm an cdv ct), osl⟩) (hcd : PySem.W.codeIn K cdv qual = true) (S : FnScope N ps scope)
    (len : ∀ vs H Q E, sp vs H Q E -> vs.length = ps.length)
    (hbody : ∀ (A : Around) (outer : List Env) (s : Shared) (H : Hp) (vs : List V) (Q : VK) (E : XK), Room k (A.deeper (envOfC qual scope s.heap.objs.size f cdv)) -> sp vs H Q E ->
      ∃ t, PSs (cxOf CX P w K mg base N qual scope f cdv A outer s H E) body t /\ t { nx := fun _ H' => Q .non H', rt := Q } (start N vs) H) :
    FnOk P w K mg base CX (k + 1) f (PySem.W.fnOf name qual params body scope dV kV doc pm an cdv ct) ps sp := by
  refine ⟨len, fun A outer s H args us vs Q E hr e0 hb r hsp => ?_⟩
  have hl := len _ _ _ _ hsp
  have KX : K.In s.heap := e0.mod.kin.keeps fun b o e => (e0.bs b o e).1
  have lim : s.heap.NoLimit := e0.mod.nolimit.keeps fun b o e => (e0.bs b o e).1
  have hkind : ∀ y ∈ ps.zip us, scope.names.lookup y.1 = some .local \/ (scope.names.lookup y.1 = some .cell /\ ((cellsFrom (s.heap.objs.size + 1) scope.names []).lookup y.1).isSome = true) := fun ⟨n, v⟩ hy => by
    rcases S.par n (List.of_mem_zip hy).1 with q | q
    · exact .inl q
    · exact .inr ⟨q, PySem.W.cellsFrom_some _ _ _ (.inl q)⟩
  refine codeAny_call_function hr.depth (KX _ _ lk) rfl S.co S.gen rfl (PySem.W.codeRec_of KX hcd) (hb _ _ _ _ ?_)
  refine wpAny_newFunctionEnv_cells S.kind hkind fun env he s1 x => ?_
  subst he
  refine ⟨lim.keeps x.toInCall.keep, codeAny_func ?_⟩
  obtain ⟨t, ht, hq⟩ := hbody A outer s H vs Q E (hr.deeper _) hsp
  have I : Inv (cxOf CX P w K mg base N qual scope f cdv A outer s H E) [] (start N vs) H s1 := inv_start S hr.hd e0 hl r x
  refine wpAny_mono (ht [] s1 (start N vs) H _ I hq) (fun fl s' hs => ?_) fun e s' hs => hs
  have fin : ∀ {σ' : St} {H' : Hp} {v : V} {u : Value}, Inv (cxOf CX P w K mg base N qual scope f cdv A outer s H E) [] σ' H' s' -> RelV v u -> Q v H' -> CE outer P w H s Q u s' :=
    fun {σ' H' v u} J rv q => ⟨v, H', J.os, J.bare, J.base, J.hok, rv, q⟩
  cases fl with
  | ret u =>
    obtain ⟨v, σ', H', J, rv, q⟩ := hs
    exact fin J rv q
  | next =>
    obtain ⟨σ', H', J, q⟩ := hs
    exact fin (v := V.non) (u := Value.none) J rfl q
  | brk =>
    obtain ⟨_, _, _, q⟩ := hs
    exact False.elim q
  | cont =>
    obtain ⟨_, _, _, q⟩ := hs
    exact False.elim q
end L2
namespace L2
open PySem PySem.Spec PyProof.Rows
section
variable {X : Cx} {x : Str} {p pos : Pos} {e : Expr} {es : List Expr} {t : TA} {id T : String} {r : List V -> Hp -> VK -> Prop}
noncomputable def tCB (r : List V -> Hp -> VK -> Prop) (t : TA) : TE := fun σ H Q => t σ H fun vs H1 => r vs H1 Q
theorem pe_callB (hc : CallR X (.builtin id) r) (hg : Gl X x) (hm : X.mg x = none) (hv : bootBuiltins x = some (.builtin id)) (ha : PA X (e :: es) t) (hn : x ≠ "__name__" := by decide) (hdb : (x == ("__debug__" : Str)) = false := by decide)
    (he : starEach (e :: es) X.env = (false, eval e X.env) :: starEach es X.env := by rfl) (hpl : (backTo pos (starEach es X.env)).any (·.1) = false := by rfl) : PE X (.Call (.Name x p) (e :: es) [] pos) (tCB r t) := by
  intro pins s σ H Q I h
  refine wpAny_Call_Name_kw (ld_blt I hg hm hv ?_ hn hdb)
  exact PyProof.Rows.callWith_builtin1 (thn (ha pos pins s σ H _ I h) fun us s1 ⟨vs, H1, I1, r1, q1⟩ => hc pins s1 σ H1 vs us Q I1 r1 q1) he hpl
theorem pe_callTy (hc : CallR X (.type T) r) (hg : Gl X x) (hm : X.mg x = none) (hv : bootBuiltins x = some (.type T)) (ha : PA X (e :: es) t) (hn : x ≠ "__name__" := by decide) (hdb : (x == ("__debug__" : Str)) = false := by decide)
    (he : starEach (e :: es) X.env = (false, eval e X.env) :: starEach es X.env := by rfl) (hpl : (backTo pos (starEach es X.env)).any (·.1) = false := by rfl) : PE X (.Call (.Name x p) (e :: es) [] pos) (tCB r t) := by
  intro pins s σ H Q I h
  refine wpAny_Call_Name_kw (ld_blt I hg hm hv ?_ hn hdb)
  exact PyProof.Rows.callWith_type1 (thn (ha pos pins s σ H _ I h) fun us s1 ⟨vs, H1, I1, r1, q1⟩ => hc pins s1 σ H1 vs us Q I1 r1 q1) he hpl
end
end L2
namespace HT
open PySem PyProof.Rows
section
open PySem.SeqAt
open PySem.AutoSeq1 (wpAny_loadPart')
open PySem.MeetsSeq PySem.MeetsSeq2 PySem.MeetsSeq3
end
section
variable {prog : Program} {w : World} {A : Around} {E : Value -> Shared -> Prop} {s : Shared}
theorem cat_tup {t b : Addr} {vs ws : List Value} {Q : Value -> Shared -> Prop} (ht : IsTup s.heap t vs.toArray) (hb : IsTup s.heap b ws.toArray) (hv : vs ≠ [])
    (h1 : ws = [] -> Q (.ref t) s) (h2 : ws ≠ [] -> Q (.ref s.heap.objs.size) { s with heap := s.heap.push { cls := .type "tuple", data := .seq (vs ++ ws).toArray } })
    (hsz : vs.length + ws.length <= sizeLine) : wpAny (model prog w) A (binaryOp .Add (.ref t) (.ref b)) Q E s := by
  obtain ⟨⟨cls, dd, data, sl⟩, ho, hc, n, hd⟩ := id ht
  obtain ⟨⟨cls2, dd2, data2, sl2⟩, ho2, hc2, n2, hd2⟩ := id hb
  simp only at hc hd hc2 hd2
  subst hc hd hc2 hd2
  have e : vs.toArray ++ ws.toArray = (vs ++ ws).toArray := by simp
  by_cases hw : ws = []
  · exact concat_meets ⟨_, ho, rfl⟩ ⟨_, ho2, rfl⟩ noFill_tuple_add seq_tuple_add PySem.F.slot_tuple_add PySem.F.entry_tuple_add (PySem.F.args_tuple_add_2 _ _)
      (tuple_addW1 t b vs.toArray ws.toArray n n2 dd dd2 sl sl2 (by simpa using hv) (by simp [hw])) ⟨ho, ho2, h1 hw⟩
  · refine concat_meets ⟨_, ho, rfl⟩ ⟨_, ho2, rfl⟩ noFill_tuple_add seq_tuple_add PySem.F.slot_tuple_add PySem.F.entry_tuple_add (PySem.F.args_tuple_add_2 _ _)
      (tuple_addW2 t b vs.toArray ws.toArray n n2 dd dd2 sl sl2 (by simpa using hv) (by simpa using hw) (by rw [List.size_toArray, List.size_toArray]; exact hsz)) ⟨ho, ho2, ?_⟩
    rw [e]
    exact h2 hw
noncomputable def sIx (n d : Nat) : Option Int -> Nat
  | none => d
  | some v => if v < 0 then (v + (n : Int)).toNat else min v.toNat n
theorem sIx_none (n d : Nat) : sIx n d none = d := rfl
theorem sIx_nat (n d k : Nat) : sIx n d (some (k : Int)) = min k n := by
  show (if (k : Int) < 0 then ((k : Int) + (n : Int)).toNat else min (k : Int).toNat n) = min k n
  rw [if_neg (by omega), Int.toNat_natCast]
theorem sIx_le (n d : Nat) (hd : d <= n) (o : Option Int) : sIx n d o <= n := by
  cases o with
  | none => exact hd
  | some v =>
    show (if v < 0 then (v + (n : Int)).toNat else min v.toNat n) <= n
    by_cases hv : v < 0
    · rw [if_pos hv]; omega
    · rw [if_neg hv]; exact Nat.min_le_right _ _
theorem clip_eq (v : Int) (n d : Nat) : (if v < 0 then max (v + (n : Int)) 0 else min v (n : Int)) = ((sIx n d (some v) : Nat) : Int) := by
  show (if v < 0 then max (v + (n : Int)) 0 else min v (n : Int)) = (((if v < 0 then (v + (n : Int)).toNat else min v.toNat n) : Nat) : Int)
  by_cases hv : v < 0
  · simp only [if_pos hv]; omega
  · simp only [if_neg hv]; omega
theorem adjust_gen (lo hi : Option Int) (n : Nat) : Builtin.Slice.sliceAdjust lo hi 1 (n : Int) = (((sIx n 0 lo : Nat) : Int), ((sIx n n hi : Nat) : Int)) := by
  have h1 : ¬ ((1 : Int) < 0) := by omega
  unfold Builtin.Slice.sliceAdjust
  simp only [h1, if_false]
  refine Prod.ext ?_ ?_
  · cases lo with
    | none => rfl
    | some v => exact clip_eq v n 0
  · cases hi with
    | none => rfl
    | some v => exact clip_eq v n n
theorem places_gen (i j : Nat) : Builtin.Slice.slicePlaces (i : Int) (j : Int) 1 = j - i := by
  unfold Builtin.Slice.slicePlaces
  have h1 : (1 : Int) > 0 := by omega
  simp only [h1, if_true, Int.ediv_one]
  split <;> omega
theorem slicePart_ {v : Value} {o : Option Int} {Q : Option Int -> Shared -> Prop} (p : IsPart v o) (h : Q o s) : wpAny (model prog w) A (Builtin.Slice.slicePartIndex v) Q E s := by
  cases p with
  | none => exact slicePart_none h
  | int i t => exact slicePart_int h
theorem sliceApplied_gen {sl : Addr} {vl vu : Value} {lo hi : Option Int} {n : Nat} {Q : Int × Int × Nat -> Shared -> Prop} (hs : s.heap.IsSliceOf sl vl vu .none) (pl : IsPart vl lo) (pu : IsPart vu hi)
    (h : Q (((sIx n 0 lo : Nat) : Int), 1, sIx n n hi - sIx n 0 lo) s) : wpAny (model prog w) A (Builtin.Slice.sliceApplied (.ref sl) (pure (n : Int))) Q E s := by
  obtain ⟨os, hos, hcs, hds⟩ := id hs
  unfold Builtin.Slice.sliceApplied Builtin.Slice.sliceFields
  refine wpAny_bind (wpAny_bind (wpAny_field hos hds (x := vl) rfl (wpAny_bind (wpAny_field hos hds (x := vu) rfl (wpAny_bind (wpAny_field hos hds (x := .none) rfl (wpAny_pure ?_)))))))
  refine wpAny_bind (slicePart_none ?_)
  show wpAny _ _ (if ((1 : Int) == 0) = true then _ else _) _ _ s
  rw [if_neg (by decide)]
  refine wpAny_bind (slicePart_ pl (wpAny_bind (slicePart_ pu (wpAny_bind (wpAny_pure ?_)))))
  show wpAny _ _ (match Builtin.Slice.sliceAdjust lo hi 1 (n : Int) with | (lo, hi) => pure (lo, (1 : Int), Builtin.Slice.slicePlaces lo hi 1)) _ _ s
  rw [adjust_gen lo hi n]
  show wpAny _ _ (pure (((sIx n 0 lo : Nat) : Int), (1 : Int), Builtin.Slice.slicePlaces ((sIx n 0 lo : Nat) : Int) ((sIx n n hi : Nat) : Int) 1)) _ _ s
  rw [places_gen]
  exact wpAny_pure h
theorem pick_gen (xs : Array Value) (i k : Nat) : ((List.range k).filterMap fun (m : Nat) => xs[((i : Int) + (m : Int) * 1).toNat]?).toArray = ((xs.toList.drop i).take k).toArray := by
  have e : (fun (m : Nat) => xs[((i : Int) + (m : Int) * 1).toNat]?) = fun m => xs[i + m]? := by
    funext m
    have : ((i : Int) + (m : Int) * 1).toNat = i + m := by omega
    rw [this]
  rw [e]
  have := pick_run xs i k
  rw [List.filterMap_map] at this
  have e2 : ((fun x => xs[x]?) ∘ fun x => i + x) = fun m => xs[i + m]? := rfl
  rw [e2] at this
  rw [this]
theorem getItem_tuple_cut {t sl : Addr} {items : Array Value} {vl vu : Value} {lo hi : Option Int} {Q : Value -> Shared -> Prop} (ht : IsTup s.heap t items) (hs : s.heap.IsSliceOf sl vl vu .none) (pl : IsPart vl lo) (pu : IsPart vu hi)
    (hw : ¬ (sIx items.size 0 lo = 0 /\ sIx items.size items.size hi = items.size))
    (h : Q (.ref s.heap.objs.size) { s with heap := s.heap.push { cls := .type "tuple", data := .seq ((items.toList.drop (sIx items.size 0 lo)).take (sIx items.size items.size hi - sIx items.size 0 lo)).toArray } })
    (hsz : items.size <= sizeLine) : wpAny (model prog w) A (getItem (.ref t) (.ref sl)) Q E s := by
  have htake : sizeOk (.seq ((items.toList.drop (sIx items.size 0 lo)).take (sIx items.size items.size hi - sIx items.size 0 lo)).toArray) := by
    show ((items.toList.drop (sIx items.size 0 lo)).take (sIx items.size items.size hi - sIx items.size 0 lo)).toArray.size <= sizeLine
    rw [List.size_toArray, List.length_take, List.length_drop, Array.length_toList]
    omega
  have hj : sIx items.size items.size hi <= items.size := sIx_le _ _ (Nat.le_refl _) hi
  obtain ⟨os, hos, hcs, hds⟩ := id hs
  have hTs : s.TypeIs (.ref sl) "slice" := ⟨os, hos, hcs⟩
  unfold getItem
  try with_reducible refine wpAny_holding ?_
  first | refine wpAny_bind (wpAny_pure ?_) | skip
  refine wpAny_bind (wpAny_sequenceKey ht.typeIs (by decide) ?_)
  refine wpAny_bind (wpAny_callSpecial?_slot (name := Str.ofString "__getitem__") ht.typeIs PyProof.Rows.slot_tuple_getitem
    (wpAny_call_entry PyProof.Rows.slot_tuple_getitem ht.typeIs entry_tuple_getitem ?_ (args_tuple_getitem _ _)))
  show wpAny _ _ (Builtin.Tuple.tupleItemsOf (.ref t) >>= _) _ _ s
  refine wpAny_bind (tupleItemsOf_ ht ?_)
  refine wpAny_bind (wpAny_typeOf hTs ?_)
  rw [if_pos (by decide)]
  refine wpAny_bind (sliceApplied_gen hs pl pu ?_)
  have hno : ¬ ((((sIx items.size 0 lo : Nat) : Int) == 0 && (1 : Int) == 1 && (sIx items.size items.size hi - sIx items.size 0 lo) == items.size) = true) := by
    intro q
    rw [Bool.and_eq_true, Bool.and_eq_true] at q
    have q1 : ((sIx items.size 0 lo : Nat) : Int) = 0 := eq_of_beq q.1.1
    have q2 : sIx items.size items.size hi - sIx items.size 0 lo = items.size := eq_of_beq q.2
    exact hw ⟨by omega, by omega⟩
  show wpAny _ _ (if (((sIx items.size 0 lo : Nat) : Int) == 0 && (1 : Int) == 1 && (sIx items.size items.size hi - sIx items.size 0 lo) == items.size) = true then _ else _) _ _ s
  rw [if_neg hno, pick_gen]
  first
    | exact wpAny_bind (m := Builtin.Tuple.tupleExact _) (wpAny_newObj_type (wpAny_pure ⟨_, rfl, wpAny_pure h⟩) htake)
    | exact wpAny_bind (m := Builtin.Tuple.tupleExact _) (wpAny_newObj_type (wpAny_bind (wpAny_pure (wpAny_pure ⟨_, rfl, wpAny_pure h⟩))) htake)
    | exact wpAny_bind (wpAny_bind (m := Builtin.Tuple.tupleExact _) (wpAny_newObj_type (wpAny_pure (wpAny_pure ⟨_, rfl, wpAny_pure h⟩)) htake))
    | exact wpAny_bind (wpAny_bind (m := Builtin.Tuple.tupleExact _) (wpAny_newObj_type (wpAny_pure ⟨_, rfl, wpAny_pure h⟩) htake))
end
end HT
namespace L2
open PySem PySem.Spec PyProof.Rows
noncomputable abbrev TO := St -> Hp -> (Option Int -> Hp -> Prop) -> Prop
noncomputable def PO (X : Cx) (e : Option Expr) (t : TO) : Prop :=
  ∀ (pins : List (Addr × Obj)) (s : Shared) (σ : St) (H : Hp) (Q : Option Int -> Hp -> Prop), Inv X pins σ H s -> t σ H Q ->
    wpAny (model X.prog X.w) X.A (evalPart e X.env) (fun u s' => ∃ o H', Inv X pins σ H' s' /\ IsPart u o /\ Q o H') X.xe s
noncomputable def tNoPart : TO := fun _ H Q => Q none H
noncomputable def tPart (t : TE) : TO := fun σ H Q => t σ H fun x H1 => ∃ i, x = .int i /\ Q (some i) H1
theorem intsAre_of {ns : List Int} : ∀ {us : List Value}, Vals (ns.map V.int) us -> IntsAre us ns := by
  induction ns with
  | nil => intro us r; rw [List.map_nil] at r; cases r; exact .nil
  | cons n ns ih =>
    intro us r
    rw [List.map_cons] at r
    cases r with
    | cons r1 r2 =>
      obtain ⟨t, e⟩ := r1
      subst e
      exact .cons n t (ih r2)
section
variable {X : Cx} {e : Expr} {te : TE} {lo hi : Option Expr} {tl th : TO} {pos p2 : Pos}
theorem po_none : PO X none tNoPart := by
  intro pins s σ H Q I h
  rw [evalPart_none]
  exact wpAny_pure ⟨none, H, I, .none, h⟩
theorem po_some (h : PE X e te) : PO X (some e) (tPart te) := by
  intro pins s σ H Q I hw
  rw [evalPart_some]
  refine thn (h pins s σ H _ I hw) fun u s1 ⟨x, H1, I1, r1, q1⟩ => ?_
  obtain ⟨i, rfl, q⟩ := q1
  obtain ⟨t, rfl⟩ := r1
  exact ⟨some i, H1, I1, .int i t, q⟩
noncomputable def SlR (X : Cx) (r : V -> Option Int -> Option Int -> Hp -> VK -> Prop) : Prop :=
  ∀ (pins : List (Addr × Obj)) (s : Shared) (σ : St) (H : Hp) (x : V) (v vl vu : Value) (lo hi : Option Int) (sl : Addr) (Q : VK), Inv X pins σ H s -> RelV x v -> s.heap.IsSliceOf sl vl vu .none -> IsPart vl lo -> IsPart vu hi -> r x lo hi H Q ->
    ∃ T id, typeLookup (.type T) "__getitem__" = pure (some (.builtin id)) /\ s.TypeIs v T /\ wpAny (model X.prog X.w) X.A (getItem v (.ref sl)) (EP X pins σ Q) X.xe s
noncomputable def tSl (r : V -> Option Int -> Option Int -> Hp -> VK -> Prop) (te : TE) (tl th : TO) : TE := fun σ H Q => te σ H fun x H1 => tl σ H1 fun l H2 => th σ H2 fun u H3 => r x l u H3 Q
theorem pe_slice {r : V -> Option Int -> Option Int -> Hp -> VK -> Prop} (hr : SlR X r) (he : PE X e te) (hl : PO X lo tl) (hu : PO X hi th) : PE X (.Subscript e (.Slice lo hi none p2) pos) (tSl r te tl th) := by
  intro pins s σ H Q I h
  refine Subscript_ (thn (he pins s σ H _ I h) fun v s1 ⟨x, H1, I1, r1, q1⟩ => ?_)
  refine wpAny_Slice (thn (hl pins s1 σ H1 _ I1 q1) fun vl s2 ⟨l, H2, I2, pl, q2⟩ => thn (hu pins s2 σ H2 _ I2 q2) fun vu s3 ⟨u, H3, I3, pu, q3⟩ => ?_)
  rw [evalPart_none]
  refine wpAny_pure ?_
  have I4 : Inv X pins σ H3 { s3 with heap := s3.heap.push { cls := .type "slice", data := .fields #[vl, vu, .none] } } := I3.kept (t' := s3.toks) fun b ob q => Heap.get?_push_of_some _ q
  obtain ⟨T, id, hT, ht, hg⟩ := hr pins { s3 with heap := s3.heap.push { cls := .type "slice", data := .fields #[vl, vu, .none] } } σ H3 x v vl vu l u s3.heap.objs.size Q I4 r1 (Heap.IsSliceOf.new ..) pl pu q3
  show wpAny (model X.prog X.w) X.A (subscriptTail e (.Slice lo hi none p2) v (.ref s3.heap.objs.size)) (EP X pins σ Q) X.xe { s3 with heap := s3.heap.push { cls := .type "slice", data := .fields #[vl, vu, .none] } }
  exact tail_any (ops := [.ref s3.heap.objs.size, v]) ht hT hg (by with_unfolding_all rfl)
noncomputable def cutV (xs : List V) (lo hi : Option Int) : List V := (xs.drop (HT.sIx xs.length 0 lo)).take (HT.sIx xs.length xs.length hi - HT.sIx xs.length 0 lo)
theorem cutV_length (xs : List V) (lo hi : Option Int) : (cutV xs lo hi).length <= xs.length := by
  unfold cutV
  rw [List.length_take, List.length_drop]
  omega
noncomputable def rSlT (K : PySem.W.Frag) : V -> Option Int -> Option Int -> Hp -> VK -> Prop := fun x lo hi H Q => ∃ a xs, x = .ref a /\ SqT K H a xs /\
  ¬ (HT.sIx xs.length 0 lo = 0 /\ HT.sIx xs.length xs.length hi = xs.length) /\ ∀ p, H p = none -> Q (.ref p) (upd H p (.tup (cutV xs lo hi)))
theorem sl_tup : SlR X (rSlT X.K) := by
  intro pins s σ H x v vl vu lo hi sl Q I rx hs pl pu h
  obtain ⟨a, xs, rfl, hx, hw, q⟩ := h
  cases rx
  obtain ⟨its, r, ht, hz⟩ := I.tuple hx
  have hlen : its.toArray.size = xs.length := by rw [List.size_toArray]; exact r.length.symm
  refine ⟨"tuple", _, PyProof.Rows.slot_tuple_getitem.lookup, ht.typeIs, ?_⟩
  refine HT.getItem_tuple_cut ht hs pl pu (by rw [hlen]; exact hw) ?_ (by rw [hlen]; exact hz)
  rw [hlen]
  refine ⟨.ref s.heap.objs.size, _, I.laid (t' := s.toks) (o := .tup (cutV xs lo hi)) (fun b ob q => Heap.get?_push_of_some _ q) (Nat.le_refl _) ?_, rfl, q _ (I.hok.fresh (Nat.le_refl _))⟩
  exact ⟨Nat.le_trans (cutV_length xs lo hi) hz, _, (r.drop (HT.sIx xs.length 0 lo)).take (HT.sIx xs.length xs.length hi - HT.sIx xs.length 0 lo), IsTup.new _ _⟩
noncomputable def rCatT (K : PySem.W.Frag) : R2 := fun x y H Q => ∃ a b xs ys, x = .ref a /\ y = .ref b /\ SqT K H a xs /\ SqT K H b ys /\ xs ≠ [] /\ xs.length + ys.length <= sizeLine /\
  (ys = [] -> Q (.ref a) H) /\ (ys ≠ [] -> ∀ p, H p = none -> Q (.ref p) (upd H p (.tup (xs ++ ys))))
theorem Vals.nil_iff {xs : List V} {us : List Value} (r : Vals xs us) : us = [] ↔ xs = [] := by
  cases r with
  | nil => simp
  | cons _ _ => simp
theorem op_catT : OpR X (binaryOp .Add) (rCatT X.K) := by
  intro pins s σ H x y v u Q I rx ry h
  obtain ⟨a, b, xs, ys, rfl, rfl, ha, hb, hx, hz, q1, q2⟩ := h
  cases rx
  cases ry
  obtain ⟨its, r1, p1, _⟩ := I.tuple ha
  obtain ⟨its2, r2, p2, _⟩ := I.tuple hb
  refine HT.cat_tup p1 p2 (fun z => hx (r1.nil_iff.mp z)) (fun z => ⟨.ref a, H, I, rfl, q1 (r2.nil_iff.mp z)⟩) (fun z => ?_) (by rw [<- r1.length, <- r2.length]; exact hz)
  refine ⟨.ref s.heap.objs.size, _, I.laid (t' := s.toks) (o := .tup (xs ++ ys)) (fun b ob q => Heap.get?_push_of_some _ q) (Nat.le_refl _) ?_, rfl, q2 (fun w => z (r2.nil_iff.mpr w)) _ (I.hok.fresh (Nat.le_refl _))⟩
  exact ⟨by rw [List.length_append]; exact hz, _, r1.append r2, IsTup.new _ _⟩
end
end L2
namespace L2
open PySem PySem.Spec PyProof.Rows
noncomputable def ixN (n : Nat) (i : Int) : Option Nat := if 0 <= i then (if i < n then some i.toNat else none) else if -(n : Int) <= i then some (i + n).toNat else none
noncomputable def atI {α : Type} (xs : List α) (i : Int) : Option α := (ixN xs.length i).bind fun j => xs[j]?
theorem ixN_seq {n : Nat} {i : Int} {j : Nat} (h : ixN n i = some j) : seqIndex? i n = some j /\ j < n /\ -(n : Int) <= i /\ i < n := by
  unfold ixN at h
  by_cases h0 : 0 <= i
  · rw [if_pos h0] at h
    by_cases h1 : i < n
    · rw [if_pos h1] at h
      have e : i.toNat = j := Option.some.inj h
      exact ⟨by rw [seqIndex_of h0 h1, e], by omega, by omega, h1⟩
    · rw [if_neg h1] at h; cases h
  · rw [if_neg h0] at h
    by_cases h1 : -(n : Int) <= i
    · rw [if_pos h1] at h
      have e : (i + n).toNat = j := Option.some.inj h
      exact ⟨by rw [seqIndex_neg (by omega) h1, e], by omega, h1, by omega⟩
    · rw [if_neg h1] at h; cases h
theorem atI_get {α : Type} {xs : List α} {i : Int} {v : α} (h : atI xs i = some v) : ∃ j, seqIndex? i xs.length = some j /\ xs[j]? = some v /\ j < xs.length /\ -(xs.length : Int) <= i /\ i < xs.length := by
  unfold atI at h
  cases e : ixN xs.length i with
  | none => rw [e] at h; cases h
  | some j =>
    rw [e] at h
    obtain ⟨h1, h2, h3, h4⟩ := ixN_seq e
    exact ⟨j, h1, h, h2, h3, h4⟩
theorem atI_nat {α : Type} {xs : List α} {j : Nat} {v : α} (h : xs[j]? = some v) : atI xs (j : Int) = some v := by
  have hj : j < xs.length := (List.getElem?_eq_some_iff.mp h).1
  have e : ixN xs.length (j : Int) = some j := by
    unfold ixN
    rw [if_pos (by omega), if_pos (by omega)]; simp
  unfold atI; rw [e]; exact h
noncomputable def PlainIx (b : Expr) : Prop := ∀ o i, subscripted b false o i = operate [o, i] (getItem o i)
noncomputable def IxR (X : Cx) (r : R2) : Prop :=
  ∀ (value slice : Expr) (pins : List (Addr × Obj)) (s : Shared) (σ : St) (H : Hp) (x y : V) (v u : Value) (Q : VK), Inv X pins σ H s -> RelV x v -> RelV y u -> r x y H Q ->
    subscripted slice false v u = operate [v, u] (getItem v u) -> wpAny (model X.prog X.w) X.A (subscriptTail value slice v u) (EP X pins σ Q) X.xe s
noncomputable def MtR (X : Cx) (id : String) (r : V -> List V -> Hp -> VK -> Prop) : Prop :=
  ∀ (pins : List (Addr × Obj)) (s : Shared) (σ : St) (H : Hp) (x : V) (xs : List V) (v : Value) (us : List Value) (Q : VK), Inv X pins σ H s -> RelV x v -> Vals xs us -> r x xs H Q ->
    wpAny (model X.prog X.w) X.A (call (.builtin id) (v :: us)) (EP X pins σ Q) X.xe s
section
variable {X : Cx} {a b : Expr} {ta tb : TE} {pos : Pos}
theorem pe_ix {r : R2} (hr : IxR X r) (ha : PE X a ta) (hb : PE X b tb) (hs : PlainIx b) : PE X (.Subscript a b pos) (tOp r ta tb) := by
  intro pins s σ H Q I h
  exact Subscript_ (binT ha hb I h fun v u s2 x y H2 I2 rx ry q => hr a b pins s2 σ H2 x y v u Q I2 rx ry q (hs _ _))
noncomputable def rIxL (K : PySem.W.Frag) : R2 := fun x y H Q => ∃ p xs i v, x = .ref p /\ y = .int i /\ SqL K H p xs /\ atI xs i = some v /\ Q v H
noncomputable def rIxT (K : PySem.W.Frag) : R2 := fun x y H Q => ∃ p xs i v, x = .ref p /\ y = .int i /\ SqT K H p xs /\ atI xs i = some v /\ Q v H
noncomputable def rIxS : R2 := fun x y H Q => ∃ z i c, x = .str z /\ y = .int i /\ z.length <= sizeLine /\ atI z.cps.toList i = some c /\ Q (.str ⟨#[c]⟩) H
theorem ix_list : IxR X (rIxL X.K) := by
  intro value slice pins s σ H x y v u Q I rx ry h hs
  obtain ⟨p, xs, i, z, rfl, rfl, hq, he, q⟩ := h
  cases rx
  obtain ⟨t, rfl⟩ := ry
  obtain ⟨its, r, pl, hz⟩ := I.list hq
  obtain ⟨j, h1, h2, h3, h4, h5⟩ := atI_get he
  obtain ⟨w, ew, rw'⟩ := r.get h2
  have hl := r.length
  have hn := line63
  have fin : EP X pins σ Q w s := ⟨z, H, I, rw', q⟩
  by_cases h0 : 0 <= i
  · have hj : i.toNat = j := by
      rw [seqIndex_of h0 h5] at h1
      exact Option.some.inj h1
    exact item_listR pl.isList h0 (by omega) (by rw [hj]; simpa using ew) fin hs
  · have hj : (i + (its.toArray.size : Int)).toNat = j := by
      rw [seqIndex_neg (by omega) h4] at h1
      rw [List.size_toArray, <- hl]
      exact Option.some.inj h1
    exact subscriptTail_builtinR (x := w) pl.isList.typeIs slot_list_getitem.lookup
      (wpAny_getItem_list_neg (Q := fun r s' => r = w /\ EP X pins σ Q r s') pl.isList (by omega) (by rw [List.size_toArray] <;> omega) (by omega) (by rw [hj]; simpa using ew) ⟨rfl, fin⟩) hs
theorem ix_tup : IxR X (rIxT X.K) := by
  intro value slice pins s σ H x y v u Q I rx ry h hs
  obtain ⟨p, xs, i, z, rfl, rfl, hq, he, q⟩ := h
  cases rx
  obtain ⟨t, rfl⟩ := ry
  obtain ⟨its, r, pl, hz⟩ := I.tuple hq
  obtain ⟨j, h1, h2, h3, h4, h5⟩ := atI_get he
  obtain ⟨w, ew, rw'⟩ := r.get h2
  have hl := r.length
  have hn := line63
  have fin : EP X pins σ Q w s := ⟨z, H, I, rw', q⟩
  exact subscriptTail_builtinR (x := w) pl.typeIs slot_tuple_getitem.lookup
    (getItem_tuple (j := j) (Q := fun r s' => r = w /\ EP X pins σ Q r s') pl (by omega) (by omega) (by rw [List.size_toArray, <- hl]; exact h1) (by simpa using ew) ⟨rfl, fin⟩) hs
theorem ix_str : IxR X rIxS := by
  intro value slice pins s σ H x y v u Q I rx ry h hs
  obtain ⟨z, i, c, rfl, rfl, hz, he, q⟩ := h
  obtain ⟨t, rfl⟩ := rx
  obtain ⟨t', rfl⟩ := ry
  obtain ⟨j, h1, h2, h3, h4, h5⟩ := atI_get he
  have hl : z.cps.toList.length = z.length := by simp [Str.length]
  rw [hl] at h1 h4 h5
  have hn := line63
  exact tail_any (typeIs_str s z t) slot_str_getitem.lookup (getItem_str (c := c) (by
    have e1 : decide (i < -(2 ^ 63 : Int)) = false := decide_eq_false (by omega)
    have e2 : decide (i ≥ 2 ^ 63) = false := decide_eq_false (by omega)
    rw [e1, e2, Bool.or_false]) (by rw [h1]; simpa using h2) ⟨.str ⟨#[c]⟩, H, I.tok _, ⟨_, rfl⟩, q⟩) hs
theorem mapSeq_set (its : List Value) (n j : Nat) (u : Value) : Obj.mapSeq (·.setIfInBounds j u) { cls := .type "list", data := .seq its.toArray n } = { cls := .type "list", data := .seq (its.set j u).toArray n } := by
  simp [Obj.mapSeq]
theorem Inv.lst {pins : List (Addr × Obj)} {σ : St} {H : Hp} {s : Shared} {p : Addr} {xs : List V} (I : Inv X pins σ H s) (h : H p = some (.lst xs)) :
    ∃ (its : List Value) (n : Nat), Vals xs its /\ s.heap.get? p = some { cls := .type "list", data := .seq its.toArray n } /\ xs.length <= sizeLine := by
  obtain ⟨z, its, n, r, e⟩ := I.hok p _ h
  exact ⟨its, n, r, e, z⟩
theorem Inv.lstUpd {pins : List (Addr × Obj)} {σ : St} {H : Hp} {s : Shared} {p : Addr} {xs ys : List V} {its its' : List Value} {n n' : Nat} {f : Obj -> Obj} (I : Inv X pins σ H s) (h : H p = some (.lst xs))
    (ho : s.heap.get? p = some { cls := .type "list", data := .seq its.toArray n }) (hf : f { cls := .type "list", data := .seq its.toArray n } = { cls := .type "list", data := .seq its'.toArray n' }) (r : Vals ys its') (hz : ys.length <= sizeLine) (t : Nat) :
    Inv X pins σ (upd H p (.lst ys)) { s with heap := s.heap.update p f, toks := t } := by
  have e : (s.heap.update p f).get? p = some { cls := .type "list", data := .seq its'.toArray n' } := by
    rw [Heap.get?_update_self f ho (by rw [hf] <;> rfl), hf]
  refine I.write (x := p) (e := p) (by rw [h]; trivial) (.inl rfl) (fun b u hb q => (Heap.get?_update_other _ _ (Ne.symm hb)).trans q) ⟨_, e⟩ ?_
  exact ⟨hz, its', n', r, e⟩
noncomputable def rSetL : V -> V -> V -> Hp -> (Hp -> Prop) -> Prop := fun o i v H Q => ∃ p xs k j, o = .ref p /\ i = .int k /\ H p = some (.lst xs) /\ ixN xs.length k = some j /\ Q (upd H p (.lst (xs.set j v)))
theorem set_list : PSet X rSetL := by
  intro pins s σ H o i v ov iv u Q I ro ri rv h
  obtain ⟨p, xs, k, j, rfl, rfl, hp, hj, q⟩ := h
  cases ro
  obtain ⟨t, rfl⟩ := ri
  obtain ⟨its, n, r, ho, hz⟩ := I.lst hp
  obtain ⟨h1, h2, h3, h4⟩ := ixN_seq hj
  have hl := r.length
  have hn := line63
  have I' : Inv X pins σ (upd H p (.lst (xs.set j v))) { s with heap := s.heap.update p (Obj.mapSeq (·.setIfInBounds j u)) } :=
    I.lstUpd hp ho (mapSeq_set its n j u) (r.set rv j) (by rw [List.length_set]; exact hz) s.toks
  by_cases h0 : 0 <= k
  · have hk : k.toNat = j := by
      rw [seqIndex_of h0 h4] at h1
      exact Option.some.inj h1
    exact PySem.W.ki_setAt ho h0 (by omega) (by rw [List.size_toArray, <- hl]; exact h4) (by rw [hk]; exact ⟨_, I', q⟩)
  · have hk : (k + (its.toArray.size : Int)).toNat = j := by
      rw [seqIndex_neg (by omega) h3] at h1
      rw [List.size_toArray, <- hl]
      exact Option.some.inj h1
    exact PySem.W.ki_setBack ho (by omega) (by rw [List.size_toArray, <- hl]; exact h3) (by omega) (by rw [hk]; exact ⟨_, I', q⟩)
theorem slice_bounds (lo hi : Option Int) (n : Nat) : (sliceBounds lo hi none n).1 = ((HT.sIx n 0 lo : Nat) : Int) /\ (sliceBounds lo hi none n).2.1 = ((HT.sIx n n hi : Nat) : Int) /\ (sliceBounds lo hi none n).2.2 = 1 := by
  refine ⟨?_, ?_, rfl⟩
  · cases lo with
    | none => simp [sliceBounds, HT.sIx]
    | some i =>
      simp only [sliceBounds, HT.sIx, Option.getD_none, show (1 : Int) > 0 by decide, if_true]
      by_cases h : i < 0
      · simp only [h, if_true] <;> omega
      · simp only [h, if_false] <;> omega
  · cases hi with
    | none => simp [sliceBounds, HT.sIx]
    | some i =>
      simp only [sliceBounds, HT.sIx, Option.getD_none, show (1 : Int) > 0 by decide, if_true]
      by_cases h : i < 0
      · simp only [h, if_true] <;> omega
      · simp only [h, if_false] <;> omega
theorem slicePick_cut (its : List Value) (lo hi : Option Int) : slicePick its.toArray lo hi none = ((its.drop (HT.sIx its.length 0 lo)).take (HT.sIx its.length its.length hi - HT.sIx its.length 0 lo)).toArray := by
  obtain ⟨h1, h2, h3⟩ := slice_bounds lo hi its.toArray.size
  unfold slicePick
  rw [h1, h2, h3]
  simp only [sliceRange_one, pick_run, List.size_toArray] <;> rfl
noncomputable def rSlL (K : PySem.W.Frag) : V -> Option Int -> Option Int -> Hp -> VK -> Prop := fun x lo hi H Q => ∃ a xs, x = .ref a /\ SqL K H a xs /\ ∀ p, H p = none -> Q (.ref p) (upd H p (.lst (cutV xs lo hi)))
theorem sl_list : SlR X (rSlL X.K) := by
  intro pins s σ H x v vl vu lo hi sl Q I rx hs pl pu h
  obtain ⟨a, xs, rfl, hx, q⟩ := h
  cases rx
  obtain ⟨its, r, ht, hz⟩ := I.list hx
  have hlen := r.length
  refine ⟨"list", _, slot_list_getitem.lookup, ht.isList.typeIs, ?_⟩
  refine wpAny_getItem_list_slice ht.isList hs pl pu .none (by simp) ?_ (by rw [List.size_toArray] <;> omega)
  rw [slicePick_cut, <- hlen]
  refine ⟨.ref s.heap.objs.size, _, I.laid (t' := s.toks) (o := .lst (cutV xs lo hi)) (fun b ob q => Heap.get?_push_of_some _ q) (Nat.le_refl _) ?_, rfl, q _ (I.hok.fresh (Nat.le_refl _))⟩
  exact ⟨Nat.le_trans (cutV_length xs lo hi) hz, _, 0, (r.drop (HT.sIx xs.length 0 lo)).take (HT.sIx xs.length xs.length hi - HT.sIx xs.length 0 lo), Heap.get?_push_size _ rfl⟩
noncomputable def flatV : V -> Bool
  | .non => true
  | .bl _ => true
  | .int _ => true
  | .str _ => true
  | _ => false
noncomputable def eqV : V -> V -> Bool
  | .non, .non => true
  | .bl a, .bl b => a == b
  | .bl a, .int b => (if a then 1 else 0) == b
  | .int a, .bl b => a == (if b then 1 else 0)
  | .int a, .int b => a == b
  | .str a, .str b => a == b
  | _, _ => false
theorem eqAt_V {A : Around} {s : Shared} {y x : V} {u v : Value} (ry : RelV y u) (rx : RelV x v) (fy : flatV y = true) (fx : flatV x = true) : SeqAt.EqAt A s u v (eqV y x) := by
  cases y with
  | non =>
    cases ry
    cases x with
    | non => cases rx; exact SeqAt.EqAt.same _
    | bl b => cases rx; exact SeqAt.EqAt.none_bool b
    | int b => obtain ⟨t, rfl⟩ := rx; exact SeqAt.EqAt.none_int b t
    | str b => obtain ⟨t, rfl⟩ := rx; exact SeqAt.EqAt.none_str b t
    | _ => exact absurd (show false = true from fx) Bool.false_ne_true
  | bl a =>
    cases ry
    cases x with
    | non => cases rx; exact SeqAt.EqAt.bool_none a
    | bl b => cases rx; exact SeqAt.EqAt.bool_bool a b
    | int b => obtain ⟨t, rfl⟩ := rx; exact SeqAt.EqAt.bool_int a b t
    | str b => obtain ⟨t, rfl⟩ := rx; exact SeqAt.EqAt.bool_str a b t
    | _ => exact absurd (show false = true from fx) Bool.false_ne_true
  | int a =>
    obtain ⟨t', rfl⟩ := ry
    cases x with
    | non => cases rx; exact SeqAt.EqAt.int_none a t'
    | bl b => cases rx; exact SeqAt.EqAt.int_bool a t' b
    | int b => obtain ⟨t, rfl⟩ := rx; exact SeqAt.EqAt.int_int a t' b t
    | str b => obtain ⟨t, rfl⟩ := rx; exact SeqAt.EqAt.int_str a t' b t
    | _ => exact absurd (show false = true from fx) Bool.false_ne_true
  | str a =>
    obtain ⟨t', rfl⟩ := ry
    cases x with
    | non => cases rx; exact SeqAt.EqAt.str_none a t'
    | bl b => cases rx; exact SeqAt.EqAt.str_bool a t' b
    | int b => obtain ⟨t, rfl⟩ := rx; exact SeqAt.EqAt.str_int a t' b t
    | str b => obtain ⟨t, rfl⟩ := rx; exact SeqAt.EqAt.str_str a t' b t
    | _ => exact absurd (show false = true from fx) Bool.false_ne_true
  | _ => exact absurd (show false = true from fy) Bool.false_ne_true
noncomputable def eqU (x : V) (u : Value) : Bool := match u with
  | .none => eqV .non x
  | .bool b => eqV (.bl b) x
  | .int i _ => eqV (.int i) x
  | .str z _ => eqV (.str z) x
  | _ => false
theorem eqU_of {x y : V} {u : Value} (r : RelV y u) (f : flatV y = true) : eqU x u = eqV y x := by
  cases y with
  | non => cases r; rfl
  | bl b => cases r; rfl
  | int i => obtain ⟨t, rfl⟩ := r; rfl
  | str z => obtain ⟨t, rfl⟩ := r; rfl
  | _ => exact absurd (show false = true from f) Bool.false_ne_true
theorem any_eqU {x : V} : ∀ {xs : List V} {us : List Value}, Vals xs us -> xs.all flatV = true -> us.any (eqU x) = xs.any fun y => eqV y x
  | _, _, .nil, _ => rfl
  | y :: xs, u :: us, .cons r t, f => by
    rw [List.all_cons, Bool.and_eq_true] at f
    rw [List.any_cons, List.any_cons, eqU_of r f.1, any_eqU t f.2]
theorem mem_eqAt {A : Around} {s : Shared} {x : V} {v : Value} (rx : RelV x v) (fx : flatV x = true) : ∀ {xs : List V} {us : List Value}, Vals xs us -> xs.all flatV = true -> ∀ u ∈ us, SeqAt.EqAt A s u v (eqU x u)
  | _, _, .nil, _ => fun u hu => by cases hu
  | y :: xs, u :: us, .cons r t, f => fun u' hu => by
    rw [List.all_cons, Bool.and_eq_true] at f
    rcases List.mem_cons.mp hu with rfl | hu
    · rw [eqU_of r f.1]; exact eqAt_V r rx f.1 fx
    · exact mem_eqAt rx fx t f.2 u' hu
noncomputable def inV (x : V) (xs : List V) : Bool := xs.any fun y => eqV y x
noncomputable def rIn (K : PySem.W.Frag) (neg : Bool) : R2 := fun x y H Q => ∃ p xs, y = .ref p /\ (SqL K H p xs \/ SqT K H p xs) /\ flatV x = true /\ xs.all flatV = true /\ Q (.bl (if neg then !inV x xs else inV x xs)) H
theorem op_in_seq : OpR X (compareOp .In) (rIn X.K false) := by
  intro pins s σ H x y v u Q I rx ry h
  obtain ⟨p, xs, rfl, hq, fx, fs, q⟩ := h
  cases ry
  rcases hq with hq | hq
  · obtain ⟨its, r, pl, hz⟩ := I.list hq
    refine SeqAt.in_listAt (eqU x) pl.isList (fun w hw => mem_eqAt rx fx r fs w (by simpa using hw)) ⟨.bl _, H, I, rfl, ?_⟩
    rw [show its.toArray.any (eqU x) = its.any (eqU x) by simp, any_eqU r fs]
    exact q
  · obtain ⟨its, r, pl, hz⟩ := I.tuple hq
    refine SeqAt.in_tupleAt (eqU x) pl (fun w hw => mem_eqAt rx fx r fs w (by simpa using hw)) ⟨.bl _, H, I, rfl, ?_⟩
    rw [show its.toArray.any (eqU x) = its.any (eqU x) by simp, any_eqU r fs]
    exact q
theorem op_notIn_str : OpR X (compareOp .NotIn) (fun x y H Q => ∃ i j, x = .str i /\ y = .str j /\ Q (.bl (!(!(Builtin.Str.occurrences j i 0 j.length 1).isEmpty))) H) := by
  intro pins s σ H x y v u Q I rx ry h
  obtain ⟨i, j, rfl, rfl, q⟩ := h
  obtain ⟨t, rfl⟩ := rx
  obtain ⟨t', rfl⟩ := ry
  exact notIn_str ⟨.bl _, H, I, rfl, q⟩
theorem call_len_seq : CallR X (.builtin "len") (fun xs H Q => ∃ p ys, xs = [.ref p] /\ (SqL X.K H p ys \/ SqT X.K H p ys) /\ Q (.int ys.length) H) := by
  intro pins s σ H xs us Q I r h
  obtain ⟨p, ys, rfl, hq, q⟩ := h
  obtain ⟨u, rfl, rx⟩ := vals1 r
  cases rx
  have hn := line63
  rcases hq with hq | hq
  · obtain ⟨its, r', pl, hz⟩ := I.list hq
    have hlen := r'.length
    exact Calls.call_len_list pl.isList (by simp only [List.size_toArray] <;> omega) ⟨.int ys.length, H, I.tok _, ⟨s.toks + 1, by rw [List.size_toArray, hlen]⟩, q⟩
  · obtain ⟨its, r', pl, hz⟩ := I.tuple hq
    have hlen := r'.length
    exact len_tuple pl (by simp only [List.size_toArray] <;> omega) ⟨.int ys.length, H, I.tok _, ⟨s.toks + 1, by rw [List.size_toArray, hlen]⟩, q⟩
theorem call_len_str : CallR X (.builtin "len") (fun xs H Q => ∃ z, xs = [.str z] /\ z.length <= sizeLine /\ Q (.int z.length) H) := by
  intro pins s σ H xs us Q I r h
  obtain ⟨z, rfl, hz, q⟩ := h
  obtain ⟨u, rfl, t, rfl⟩ := vals1 r
  have hn := line63
  exact len_str (by omega) ⟨.int z.length, H, I.tok _, ⟨_, rfl⟩, q⟩
theorem call_list_of : CallR X (.type "list") (fun xs H Q => ∃ p ys, xs = [.ref p] /\ (SqL X.K H p ys \/ SqT X.K H p ys) /\ ∀ l, H l = none -> Q (.ref l) (upd H l (.lst ys))) := by
  intro pins s σ H xs us Q I r h
  obtain ⟨p, ys, rfl, hq, q⟩ := h
  obtain ⟨u, rfl, rx⟩ := vals1 r
  cases rx
  have fin : ∀ (its : List Value), Vals ys its -> ys.length <= sizeLine -> ∀ (h' : Heap) (c' : Nat), (∀ b o', s.heap.get? b = some o' -> h'.get? b = some o') ->
      h'.get? s.heap.objs.size = some { cls := .type "list", dict := none, data := .seq its.toArray c', slots := #[] } -> EP X pins σ Q (.ref s.heap.objs.size) { s with heap := h' } := fun its r' hz h' c' kp e =>
    ⟨.ref s.heap.objs.size, _, I.laid (t' := s.toks) kp (Nat.le_refl _) (show ObjOk X.prog X.w _ h' _ (.lst ys) from ⟨hz, its, c', r', e⟩), rfl, q _ (I.hok.fresh (Nat.le_refl _))⟩
  rcases hq with hq | hq
  · obtain ⟨its, r', pl, hz⟩ := I.list hq
    have hlen := r'.length
    obtain ⟨o, ho, hc, n, hd⟩ := pl.isList
    exact call_list_seq p (.inl rfl) ho hc hd (fun h' c' kp e => fin its r' hz h' c' kp e) (by simp only [List.size_toArray] <;> omega)
  · obtain ⟨its, r', pl, hz⟩ := I.tuple hq
    have hlen := r'.length
    obtain ⟨o, ho, hc, n, hd⟩ := pl
    exact call_list_seq p (.inr rfl) ho hc hd (fun h' c' kp e => fin its r' hz h' c' kp e) (by simp only [List.size_toArray] <;> omega)
theorem call_tuple_of : CallR X (.type "tuple") (fun xs H Q => ∃ p ys, xs = [.ref p] /\ ((SqL X.K H p ys /\ ∀ l, H l = none -> Q (.ref l) (upd H l (.tup ys))) \/ (SqT X.K H p ys /\ Q (.ref p) H))) := by
  intro pins s σ H xs us Q I r h
  obtain ⟨p, ys, rfl, h⟩ := h
  obtain ⟨u, rfl, rx⟩ := vals1 r
  cases rx
  rcases h with ⟨hq, q⟩ | ⟨hq, q⟩
  · obtain ⟨its, r', pl, hz⟩ := I.list hq
    have hlen := r'.length
    refine call_tuple_list pl.isList (fun h' kp => ?_) (by simp only [List.size_toArray] <;> omega)
    have I1 : Inv X pins σ H { s with heap := h' } := I.kept (t' := s.toks) kp
    have I2 : Inv X pins σ (upd H h'.objs.size (.tup ys)) { s with heap := h'.push { cls := .type "tuple", data := .seq its.toArray } } :=
      I1.laid (t' := s.toks) (fun b o e => Heap.get?_push_of_some _ e) (Nat.le_refl _) (show ObjOk X.prog X.w _ _ _ (.tup ys) from ⟨hz, its, r', IsTup.new _ _⟩)
    exact ⟨.ref h'.objs.size, _, I2, rfl, q _ (I1.hok.fresh (Nat.le_refl _))⟩
  · obtain ⟨its, r', pl, hz⟩ := I.tuple hq
    exact call_tuple_same pl ⟨.ref p, H, I, rfl, q⟩
noncomputable def tyV (K : PySem.W.Frag) (T : String) (x : V) (H : Hp) : Prop := match x with
  | .str _ => T = "str"
  | .int _ => T = "int"
  | .ref p => (T = "list" /\ ∃ xs, SqL K H p xs) \/ (T = "tuple" /\ ∃ o, K.lookup p = some o /\ o.cls = .type "tuple" /\ o.dict = none) \/
      (T = "dict" /\ ((∃ kvs, H p = some (.dK kvs)) \/ ∃ kvs, H p = some (.dT kvs))) \/ (T = "set" /\ ∃ S n, H p = some (.set S n))
  | _ => False
theorem tyV_is {pins : List (Addr × Obj)} {σ : St} {H : Hp} {s : Shared} {T : String} {x : V} {v : Value} (I : Inv X pins σ H s) (r : RelV x v) (ty : tyV X.K T x H) :
    s.TypeIs v T /\ ∀ a, v = .ref a -> ∃ ob, s.heap.get? a = some ob /\ ob.dict = none := by
  cases x with
  | str z =>
    obtain ⟨t, rfl⟩ := r
    cases (show T = "str" from ty)
    exact ⟨typeIs_str s z t, fun _ e => nomatch e⟩
  | int i =>
    obtain ⟨t, rfl⟩ := r
    cases (show T = "int" from ty)
    exact ⟨typeIs_int s i t, fun _ e => nomatch e⟩
  | ref p =>
    cases r
    rcases ty with ⟨rfl, xs, hq⟩ | ⟨rfl, o, hk, hc, hd⟩ | ⟨rfl, hk⟩ | ⟨rfl, S, n, hk⟩
    · obtain ⟨its, _, pl, _⟩ := I.list hq
      refine ⟨pl.isList.typeIs, fun a e => ?_⟩
      cases e
      obtain ⟨o, n, e, c, hd, _⟩ := pl
      exact ⟨o, e, hd⟩
    · refine ⟨⟨o, I.kIn p o hk, hc⟩, fun a e => ?_⟩
      cases e
      exact ⟨o, I.kIn _ o hk, hd⟩
    · have z : ∃ o, s.heap.get? p = some o /\ o.ExactDict := by
        rcases hk with ⟨kvs, hk⟩ | ⟨kvs, hk⟩
        · obtain ⟨_, _, _, _, o, _, _, e, ex, _⟩ := I.hok p _ hk
          exact ⟨o, e, ex⟩
        · obtain ⟨_, _, _, _, o, _, _, e, ex, _⟩ := I.hok p _ hk
          exact ⟨o, e, ex⟩
      obtain ⟨o, e, ex⟩ := z
      refine ⟨⟨o, e, ex.1⟩, fun a e2 => ?_⟩
      cases e2
      exact ⟨o, e, ex.2.1⟩
    · obtain ⟨o, _, _, _, e, ex, _⟩ := I.hok p _ hk
      refine ⟨⟨o, e, ex.1⟩, fun a e2 => ?_⟩
      cases e2
      exact ⟨o, e, ex.2.1⟩
  | _ => exact False.elim ty
noncomputable def tBM0 (K : PySem.W.Frag) (T : String) (r : V -> List V -> Hp -> VK -> Prop) (to : TE) : TE := fun σ H Q => to σ H fun x H1 => tyV K T x H1 /\ r x [] H1 Q
noncomputable def tBM (K : PySem.W.Frag) (T : String) (r : V -> List V -> Hp -> VK -> Prop) (to : TE) (t : TA) : TE := fun σ H Q => to σ H fun x H1 => tyV K T x H1 /\ t σ H1 fun xs H2 => r x xs H2 Q
variable {o e : Expr} {es : List Expr} {to : TE} {t : TA} {name : Str} {apos cpos : Pos} {T id : String} {r : V -> List V -> Hp -> VK -> Prop}
theorem pe_bm0 (pa : PlainAttrs T) (slot : Slot T name id) (hty : typeOf (.builtin id) = pure (.type "method_descriptor")) (hm : MtR X id r) (ho : PE X o to)
    (hbase : attributeBase o name X.env (eval o X.env) = eval o X.env := by rfl) (hline : (apos.endLine == cpos.line) = true := by rfl) : PE X (.Call (.Attribute o name apos) [] [] cpos) (tBM0 X.K T r to) := by
  intro pins s σ H Q I h
  refine wpAny_Call_method0_late hbase hline (thn (ho pins s σ H _ I h) fun v s1 ⟨x, H1, I1, r1, ty, q1⟩ => ?_)
  obtain ⟨h1, h2⟩ := tyV_is I1 r1 ty
  exact ⟨T, id, pa, slot, hty, h1, h2, Calls.callWith_builtin rfl (PySem.evalArgs_none (hm pins s1 σ H1 x [] v [] Q I1 r1 .nil q1))⟩
theorem pe_bm (pa : PlainAttrs T) (slot : Slot T name id) (hty : typeOf (.builtin id) = pure (.type "method_descriptor")) (hm : MtR X id r) (ho : PE X o to) (ha : PA X (e :: es) t)
    (hbase : attributeBase o name X.env (eval o X.env) = eval o X.env := by rfl)
    (hfew : ((backTo cpos (starEach (e :: es) X.env)).all (fun x => !x.1) && (backToKw cpos (keywordEach [] X.env)).all (fun x => x.1.isSome)
      && decide ((e :: es).length + ([] : List Keyword).length + (if ([] : List Keyword).isEmpty then 0 else 1) < 30)) = true := by rfl)
    (hline : (apos.endLine == cpos.line) = true := by rfl) (hs : starEach (e :: es) X.env = (false, eval e X.env) :: starEach es X.env := by rfl) (hplain : (backTo cpos (starEach es X.env)).any (·.1) = false := by rfl) :
    PE X (.Call (.Attribute o name apos) (e :: es) [] cpos) (tBM X.K T r to t) := by
  intro pins s σ H Q I h
  refine wpAny_Call_method_late hbase hfew hline rfl (thn (ho pins s σ H _ I h) fun v s1 ⟨x, H1, I1, r1, ty, q1⟩ => ?_)
  obtain ⟨h1, h2⟩ := tyV_is I1 r1 ty
  refine ⟨T, id, pa, slot, hty, h1, h2, ?_⟩
  have hA := ha cpos pins s1 σ H1 _ I1 q1
  rw [hs] at hA ⊢
  refine Calls.callWith_builtin (by show (false || (backTo cpos (starEach es X.env)).any (·.1)) = false; rw [hplain] <;> rfl) (Calls.evalArgs_plain ?_)
  exact thn hA fun us s2 ⟨vs, H2, I2, r2, q2⟩ => hm pins s2 σ H2 x vs v us Q I2 r1 r2 q2
/- xs.append(e), list.index on a module's tuple .. are MtR facts of 06m -/
end
end L2
namespace L2
open PySem PySem.Spec PyProof.Rows
noncomputable def MtM (X : Cx) (id : String) (r : V -> List V -> Hp -> VK -> Prop) : Prop :=
  ∀ (pins : List (Addr × Obj)) (s : Shared) (σ : St) (H : Hp) (x : V) (xs : List V) (v : Value) (us : List Value) (Q : VK), Inv X pins σ H s -> RelV x v -> Vals xs us -> r x xs H Q ->
    wpAny (model X.prog X.w) X.A (call (.builtin id) (v :: us)) (EP X pins σ Q) X.xe s
theorem Vals.one : ∀ {x : V} {us : List Value}, Vals [x] us -> ∃ u, us = [u] /\ RelV x u
  | _, _, .cons r .nil => ⟨_, rfl, r⟩
theorem Vals.zero : ∀ {us : List Value}, Vals [] us -> us = []
  | _, .nil => rfl
theorem Vals.eraseIdx : ∀ {xs : List V} {us : List Value} (i : Nat), Vals xs us -> Vals (xs.eraseIdx i) (us.eraseIdx i)
  | _, _, _, .nil => .nil
  | _, _, 0, .cons _ t => t
  | _, _, i + 1, .cons r t => .cons r (Vals.eraseIdx i t)
theorem Vals.reverse {xs : List V} {us : List Value} (h : Vals xs us) : Vals xs.reverse us.reverse := by
  induction h with
  | nil => exact .nil
  | cons r t ih => rw [List.reverse_cons, List.reverse_cons]; exact Vals.append ih (.cons r .nil)
theorem len_erase {α : Type} : ∀ (l : List α) (i : Nat), (l.eraseIdx i).length <= l.length
  | [], _ => Nat.le_refl _
  | _ :: _, 0 => Nat.le_succ _
  | _ :: r, i + 1 => Nat.succ_le_succ (len_erase r i)
section
variable {X : Cx} {pins : List (Addr × Obj)} {σ : St} {H : Hp} {s : Shared} {l b : Addr} {xs ys zs : List V}
theorem Inv.lset {its its' : List Value} {n : Nat} {f : Array Value -> Array Value} {t' : Nat} (I : Inv X pins σ H s) (hH : H l = some (.lst xs))
    (e : s.heap.get? l = some { cls := .type "list", data := .seq its.toArray n }) (hf : f its.toArray = its'.toArray) (hv : Vals ys its') (hz : ys.length <= sizeLine) :
    Inv X pins σ (upd H l (.lst ys)) { s with heap := s.heap.update l (Obj.mapSeq f), toks := t' } := by
  have q := PySem.IsL.update e f
  rw [hf] at q
  refine I.write (x := l) (e := l) (by rw [hH]; exact trivial) (.inl rfl) (fun b' u hb hu => (Heap.get?_update_other s.heap (Obj.mapSeq f) (Ne.symm hb)).trans hu) ⟨_, q⟩ ?_
  exact ⟨hz, its', _, hv, q⟩
theorem Inv.lnew {its : List Value} {t' : Nat} (I : Inv X pins σ H s) (hv : Vals ys its) (hz : ys.length <= sizeLine) :
    Inv X pins σ (upd H s.heap.objs.size (.lst ys)) { s with heap := s.heap.push { cls := .type "list", data := .seq its.toArray }, toks := t' } :=
  I.laid (fun _ _ q => Heap.get?_push_of_some _ q) (Nat.le_refl _) ⟨hz, its, 0, hv, Heap.get?_push_size _ rfl⟩
theorem Inv.fresh (I : Inv X pins σ H s) : H s.heap.objs.size = none := I.hok.fresh (Nat.le_refl _)
theorem Inv.lstM (I : Inv X pins σ H s) (hH : H l = some (.lst xs)) : xs.length <= sizeLine /\ ∃ (its : List Value) (n : Nat), Vals xs its /\ xs.length = its.length /\ s.heap.get? l = some { cls := .type "list", data := .seq its.toArray n } := by
  obtain ⟨z, its, n, r, e⟩ := I.hok l _ hH
  exact ⟨z, its, n, r, r.length, e⟩
theorem notLongL {n : Nat} (h : n <= sizeLine) : Builtin.List.listTooLong n = false := by
  unfold Builtin.List.listTooLong
  exact decide_eq_false (by omega)
end
section
variable {X : Cx}
noncomputable def rAppend : V -> List V -> Hp -> VK -> Prop := fun x vs H Q => ∃ l xs y, x = .ref l /\ vs = [y] /\ H l = some (.lst xs) /\ xs.length < sizeLine /\ Q .non (upd H l (.lst (xs ++ [y])))
theorem mt_append : MtM X "list.append" rAppend := by
  intro pins s σ H x vs v us Q I rx rv h
  obtain ⟨l, xs, y, rfl, rfl, hH, hz, q⟩ := h
  cases rx
  obtain ⟨u, rfl, ru⟩ := rv.one
  obtain ⟨z, its, n, r, hl, e⟩ := I.lstM hH
  refine call_meets F.slot_list_append ⟨_, e, rfl⟩ F.entry_list_append (F.args_list_append_2 _ _) (PySem.list_append l its.toArray n u (by rw [List.size_toArray]; omega)) ⟨e, ?_⟩
  refine ⟨.non, _, I.lset (its' := its ++ [u]) hH e (by simp) (r.append (.cons ru .nil)) ?_, rfl, q⟩
  rw [List.length_append, List.length_singleton]
  omega
noncomputable def rExtend : V -> List V -> Hp -> VK -> Prop := fun x vs H Q => ∃ l b xs zs, x = .ref l /\ vs = [.ref b] /\ H l = some (.lst xs) /\ H b = some (.lst zs) /\ xs.length + zs.length <= sizeLine /\ Q .non (upd H l (.lst (xs ++ zs)))
theorem mt_extend : MtM X "list.extend" rExtend := by
  intro pins s σ H x vs v us Q I rx rv h
  obtain ⟨l, b, xs, zs, rfl, rfl, hH, hB, hz, q⟩ := h
  cases rx
  obtain ⟨u, rfl, ru⟩ := rv.one
  cases ru
  obtain ⟨z, its, n, r, hl, e⟩ := I.lstM hH
  obtain ⟨z2, its2, n2, r2, hl2, e2⟩ := I.lstM hB
  have hsz : its.toArray.size + its2.toArray.size <= sizeLine := by rw [List.size_toArray, List.size_toArray]; omega
  have hlong : ¬ (!its.toArray.isEmpty && Builtin.List.listTooLong (its.toArray.size + its2.toArray.size)) = true := by
    rw [notLongL hsz, Bool.and_false]
    exact Bool.false_ne_true
  refine call_meets F.slot_list_extend ⟨_, e, rfl⟩ F.entry_list_extend (F.args_list_extend_2 _ _)
    (AutoSeq1.list_extend_list_list_0 l its.toArray n b its2.toArray n2 hlong (by rw [List.size_toArray]; omega) (by omega)) ⟨e, e2, ?_⟩
  refine ⟨.non, _, I.lset (its' := its ++ its2) hH e (by simp) (r.append r2) ?_, rfl, q⟩
  rw [List.length_append]
  omega
noncomputable def rPopAt : V -> List V -> Hp -> VK -> Prop := fun x vs H Q => ∃ l xs i k y, x = .ref l /\ vs = [.int i] /\ H l = some (.lst xs) /\ -(2 ^ 63) <= i /\ i < 2 ^ 63 /\ seqIndex? i xs.length = some k /\ xs[k]? = some y /\ Q y (upd H l (.lst (xs.eraseIdx k)))
theorem mt_popAt : MtM X "list.pop" rPopAt := by
  intro pins s σ H x vs v us Q I rx rv h
  obtain ⟨l, xs, i, k, y, rfl, rfl, hH, h1, h2, hk, hy, q⟩ := h
  cases rx
  obtain ⟨u, rfl, ru⟩ := rv.one
  obtain ⟨t, rfl⟩ := ru
  obtain ⟨z, its, n, r, hl, e⟩ := I.lstM hH
  obtain ⟨w, hw, rw'⟩ := r.get hy
  refine call_meets F.slot_list_pop ⟨_, e, rfl⟩ F.entry_list_pop (F.args_list_pop_2 _ _)
    (MeetsSeq.list_pop_at l its.toArray n i t k w (fitsIndex_both h1 h2) (by rw [List.size_toArray, <- hl]; exact hk) (by rw [<- Array.getElem?_toList]; exact hw) (by rw [List.size_toArray]; omega)) ⟨e, ?_⟩
  refine ⟨y, _, I.lset (its' := its.eraseIdx k) hH e ?_ (r.eraseIdx k) ?_, rw', q⟩
  · show its.toArray.eraseIdxIfInBounds k = (its.eraseIdx k).toArray
    rw [List.eraseIdxIfInBounds_toArray]
  · have := len_erase xs k
    omega
noncomputable def rReverse : V -> List V -> Hp -> VK -> Prop := fun x vs H Q => ∃ l xs, x = .ref l /\ vs = [] /\ H l = some (.lst xs) /\ Q .non (upd H l (.lst xs.reverse))
theorem mt_reverse : MtM X "list.reverse" rReverse := by
  intro pins s σ H x vs v us Q I rx rv h
  obtain ⟨l, xs, rfl, rfl, hH, q⟩ := h
  cases rx
  have hus := rv.zero
  subst hus
  obtain ⟨z, its, n, r, hl, e⟩ := I.lstM hH
  refine call_meets F.slot_list_reverse ⟨_, e, rfl⟩ F.entry_list_reverse (F.args_list_reverse_1 _) (AutoSeq1.list_reverse_list_0 l its.toArray n (by rw [List.size_toArray]; omega)) ⟨e, ?_⟩
  refine ⟨.non, _, I.lset (its' := its.reverse) hH e (by simp) r.reverse ?_, rfl, q⟩
  rw [List.length_reverse]
  omega
noncomputable def rCat : R2 := fun x y H Q => ∃ l b xs zs, x = .ref l /\ y = .ref b /\ H l = some (.lst xs) /\ H b = some (.lst zs) /\ xs.length + zs.length <= sizeLine /\ ∀ p, H p = none -> Q (.ref p) (upd H p (.lst (xs ++ zs)))
theorem op_cat : OpR X (binaryOp .Add) rCat := by
  intro pins s σ H x y v u Q I rx ry h
  obtain ⟨l, b, xs, zs, rfl, rfl, hH, hB, hz, q⟩ := h
  cases rx
  cases ry
  obtain ⟨z, its, n, r, hl, e⟩ := I.lstM hH
  obtain ⟨z2, its2, n2, r2, hl2, e2⟩ := I.lstM hB
  refine PySem.P.add_list e e2 ?_ (by rw [List.size_toArray, List.size_toArray]; omega)
  have ea : its.toArray ++ its2.toArray = (its ++ its2).toArray := by simp
  rw [ea]
  exact ⟨.ref _, _, I.lnew (t' := s.toks) (r.append r2) (by rw [List.length_append]; omega), rfl, q _ I.fresh⟩
end
section
variable {prog : Program} {w : World} {A : Around} {E : Value -> Shared -> Prop} {s : Shared}
end
section
variable {X : Cx}
end
end L2
namespace Att
open PySem PySem.W PySem.Calls PyProof.Rows
theorem ints_of_wellAll {P : Params} {h : Heap} : ∀ (ns : List Int) (vs : List Value), WellAll P h vs (ns.map WData.int) -> IntsAre vs ns := by
  intro ns
  induction ns with
  | nil =>
    intro vs w
    rw [List.map_nil] at w
    cases w
    exact .nil
  | cons n ns ih =>
    intro vs w
    rw [List.map_cons] at w
    cases w with
    | cons a b =>
      cases a
      exact .cons _ _ (ih _ b)
theorem script_of {l : OpenLaw} {n : Nat} (hn : l.most = some n) {P : Params} {h : Heap} {args : List WData} {vals : List Value}
    (hpre : l.row.toRowW.claim.pre args = true) (hwl : WellAll P h vals args) :
    ∃ a vs ns, vals = [Value.ref a] /\ args = [WData.list (ns.map WData.int)] /\ h.get? a = some { cls := .type "list", data := .seq vs.toArray } /\ IntsAre vs ns /\ ns.length <= n := by
  have hsh : WShape.hasAll [] args [.list .int] = true := (pre_splitW hpre).1
  have hc : l.pre.holds [] { args := args } = true := (pre_splitW hpre).2
  obtain ⟨d, r, rfl, h1, h2⟩ := hasAllW_cons hsh
  obtain rfl := hasAllW_nil h2
  obtain ⟨xs, rfl, h3⟩ := hasW_list h1
  obtain ⟨ns, rfl⟩ := items_int h3
  have hlen : ns.length <= n := by
    unfold OpenLaw.pre at hc
    have h4 : (WTm.not (.lt (.lit (.int (n : Int))) (.len (.arg 0)))).holds [] { args := [.list (ns.map .int)] } = true := by
      have h4 := (holds_andW hc).1
      rw [hn] at h4
      exact h4
    have h5 := condW_of h4 (w_not (w_lt w_lit (w_len_list (w_arg rfl))))
    rw [List.length_map] at h5
    refine Nat.le_of_not_lt fun q => ?_
    have q' : (n : Int) < ((ns.length : Nat) : Int) := by omega
    first
      | (rw [decide_eq_true q'] at h5; exact absurd h5 (by decide))
      | (simp at h5; omega)
  cases hwl with
  | cons w1 w2 =>
    cases w2
    cases w1 with
    | list ho hall => exact ⟨_, _, ns, rfl, rfl, ho, ints_of_wellAll ns _ hall, hlen⟩
theorem post_true (l : OpenLaw) (args : List WData) : l.row.toRowW.claim.post args (.bool true) args = true :=
  postW_of (r := l.row.toRowW) (X := (true == true))
    (show WShape.has [] (.bool true) .bool = true by first | rfl | decide | simp [WShape.has, WShape.arms, WShape.armsAll])
    (show (WTm.eq .res (.lit (.bool true))).value [] { args := args, res := some (.bool true), after := args } = some (.bool (true == true)) from w_eq_bool (w_res rfl) w_lit) rfl
theorem attach_call {l : OpenLaw} {n : Nat} {q : Program} {loose : List Str} {XP : (Str -> Option Value) -> Heap -> Prop} {YP : World -> Heap -> Prop} {d : DefRec}
    (hn : l.most = some n) (hdf : d.params.defaults = [])
    (call : ∀ (w : World) (s₀ s₁ : Shared) (mg mb : Str -> Option Value) (fa : Addr) (o : Obj) (pm cd doc : Value) (a : Addr) (vs : List Value) (ns : List Int),
      Ground q loose [] XP w s₀ mg mb s₁.heap -> YP w s₁.heap ->
      s₁.heap.get? fa = some o -> o.data = .func (docDef d.name d.params d.body d.scope pm cd doc) -> s₁.heap.CodeRec cd d.name -> mg d.name = some (.ref fa) ->
      s₁.heap.get? a = some { cls := .type "list", data := .seq vs.toArray } -> IntsAre vs ns -> ns.length <= n -> s₁.gens = #[] ->
      codeAny (model l.prog w) callerA (.call (.ref fa) ⟨[.ref a], []⟩) (fun r s' => r = .ok (.ret (.bool true)) /\ OldK s₁.heap s'.heap /\ s'.os = s₁.os /\ AllBare s'.gens) s₁) :
    WalkO q loose XP YP l.row.toRowW d [] (fun f vs => PySem.call f vs) := by
  intro w s₀ s₁ mg mb G Y fa o pm cd doc dV kV ho hd hcd hD hmg hg args vals as hpre hlay hrd hwl hlo
  obtain rfl : dV = .none := Dflts.none hD hdf
  obtain rfl : kV = .none := Dflts.noKw hD
  obtain ⟨a, vs, ns, rfl, rfl, hobj, hints, hlen⟩ := script_of hn hpre hwl
  refine enter_call (codeAny_mono (call w s₀ s₁ mg mb fa o pm cd doc a vs ns G Y ho (fd_plain hd) hcd hmg hobj hints hlen hg) fun r s' hq => ?_)
  obtain ⟨rfl, h2, h3, h4⟩ := hq
  exact ⟨.inl ⟨.bool true, .bool true, [], rfl, fun _ => rfl, .bool true, post_true l _, fun _ => ⟨List.Pairwise.nil, fun _ hm => (nomatch hm)⟩⟩, h2, h3, h4⟩
section
variable {prog : Program} {w : World} {A : Around} {E : Value -> Shared -> Prop} {s : Shared} {K : Frag}
noncomputable def ledger (h : Heap) (L d : Addr) : List (Addr × Obj) := (List.range h.objs.size).filterMap fun a => if a = L \/ a = d then none else (h.get? a).map fun o => (a, o)
end
end Att
namespace L2
open PySem PySem.Spec PyProof.Rows
theorem vals_ints : ∀ {vs : List Value} {ns : List Int}, IntsAre vs ns -> Vals (ns.map V.int) vs
  | _, _, .nil => .nil
  | _, _, .cons n t h => .cons ⟨t, rfl⟩ (vals_ints h)
noncomputable def Only (H : Hp) : Prop := ∀ b, H b = none \/ ∃ o xs, H b = some (.frz o (.lst xs))
theorem law_call {P : Program} {w : World} {K : PySem.W.Frag} {mg mb : Str -> Option Value} {CX : CXT} {k : Nat} {fa a : Addr} {fd : FuncData} {x : Str} {sp : Sp} {s₁ : Shared} {vs : List Value} {ns : List Int}
    (KX : K.In s₁.heap) (hns : s₁.heap.Ns mainGlobals mg) (hb : s₁.heap.Ns builtinsNs mb) (hbb : ∀ x : Str, x ≠ "__name__" -> mb x = bootBuiltins x) (hlim : s₁.heap.NoLimit) (hg : s₁.gens = #[])
    (ha : s₁.heap.get? a = some { cls := .type "list", data := .seq vs.toArray }) (hi : IntsAre vs ns) (hl : ns.length <= sizeLine) (hr : Room k callerA)
    (F : ∀ base : Heap, K.In base -> base.Ns mainGlobals mg -> FnOk P w K mg base CX k fa fd [x] sp) (hbind : ∀ (s : Shared) (u : Value), BindsTo s fd ⟨[u], []⟩ [(x, u)])
    (hsp : ∀ H : Hp, Only H -> SqL K H a (ns.map V.int) -> sp [.ref a] H (fun v _ => v = .bl true) fun _ _ _ => False)
    (hCX : ∀ H e s', CX [] H s₁ (fun _ _ _ => False) e s' -> False) :
    codeAny (model P w) callerA (.call (.ref fa) ⟨[.ref a], []⟩) (fun r s' => r = .ok (.ret (.bool true)) /\ OldK s₁.heap s'.heap /\ s'.os = s₁.os /\ AllBare s'.gens) s₁ := by
  have rv := vals_ints hi
  have lenV := hi.length
  -- from an abstract heap in which nothing but the script may be tracked
  have core : ∀ H : Hp, Only H -> SqL K H a (ns.map V.int) -> HOk P w H s₁.heap -> (∀ b, H b ≠ none -> b = a) -> (H a ≠ none -> K.lookup a = none) ->
      codeAny (model P w) callerA (.call (.ref fa) ⟨[.ref a], []⟩) (fun r s' => r = .ok (.ret (.bool true)) /\ OldK s₁.heap s'.heap /\ s'.os = s₁.os /\ AllBare s'.gens) s₁ := by
    intro H hO hS hok hA hK
    have base_of : ∀ {b : Addr} {o : Obj}, s₁.heap.get? b = some o -> H b = none -> (hidT s₁.heap H).get? b = some o := fun e n => hidT_get e n
    have noA : ∀ {b : Addr} {o : Obj} {es : Array DictEntry} {ep : Nat}, s₁.heap.get? b = some o -> o.data = .dict es ep -> H b = none := fun {b o es ep} e d => by
      cases q : H b with
      | none => rfl
      | some u =>
        have e' : b = a := hA b (by rw [q]; simp)
        subst e'
        rw [ha] at e; cases e
        have d' : Data.seq vs.toArray _ = Data.dict es ep := d
        cases d'
    have nsK : ∀ {b : Addr} {m : Str -> Option Value}, s₁.heap.Ns b m -> (hidT s₁.heap H).Ns b m := fun {b m} ⟨o, es, ep, e, d, r⟩ => ⟨o, es, ep, base_of e (noA e d), d, r⟩
    have hKb : K.In (hidT s₁.heap H) := fun b o e => base_of (KX b o e) (by
      cases q : H b with
      | none => rfl
      | some u =>
        have e' : b = a := hA b (by rw [q]; simp)
        subst e'
        rw [hK (by rw [q]; simp)] at e; cases e)
    have hM : Mod K mg (hidT s₁.heap H) := ⟨hKb, nsK hns, ⟨mb, nsK hb, hbb⟩, let ⟨mc, h1, h2⟩ := hlim; ⟨mc, nsK h1, h2⟩⟩
    have e0 : Env0 P w K mg (hidT s₁.heap H) callerA [] s₁ H := ⟨rfl, hM, fun b o e => of_hidT e, Nat.le_of_eq (hidT_size _ _), trivial, fun b hb => absurd (show b ∈ ([] : List Addr) from hb) (by simp), hok, .of_eq hg⟩
    refine codeAny_mono ((F _ hKb (nsK hns)).run callerA [] s₁ H ⟨[.ref a], []⟩ [.ref a] [.ref a] _ _ hr e0 (hbind s₁ (.ref a)) (.cons rfl .nil) (hsp H hO hS)) fun r s' h => ?_
    cases r with
    | error e => exact (hCX H e s' h).elim
    | ok fl =>
      cases fl with
      | next => exact False.elim h
      | brk => exact False.elim h
      | cont => exact False.elim h
      | ret u =>
        obtain ⟨v, H', os, bare, un, hok', r', q⟩ := h
        have q' : v = .bl true := q
        subst q'
        obtain rfl : u = Value.bool true := r'
        refine ⟨rfl, OldK.of_keep fun b o e => ?_, os, bare⟩
        cases q : H b with
        | none => exact un.keep b o e q (by intro z; exact absurd (show b ∈ ([] : List Addr) from z) (by simp)) (by simp)
        | some u =>
          rcases hO b with z | ⟨ob, xs, z⟩
          · rw [q] at z; cases z
          · have z2 := un.frzs b ob _ z
            obtain ⟨e1, _⟩ := hok b _ z
            obtain ⟨e2, _⟩ := hok' b _ z2
            rw [e] at e1; cases e1
            exact e2
  cases hk : K.lookup a with
  | some o =>
    -- the script is one of the module's own objects
    have e := KX a o hk
    rw [ha] at e
    cases e
    refine core (fun _ => none) (fun _ => .inl rfl) (.inr ⟨_, vs.toArray, _, hk, rfl, rfl, rfl, by rw [List.size_toArray, lenV]; exact hl, by simpa using rv⟩) (fun b u z => by have z' : (none : Option HO) = some u := z; cases z') (fun b z => absurd rfl z) fun z => absurd rfl z
  | none =>
    refine core (fun b => if b = a then some (.frz { cls := .type "list", data := .seq vs.toArray } (.lst (ns.map V.int))) else none) (fun b => ?_) (.inl (.inr ⟨{ cls := .type "list", data := .seq vs.toArray }, if_pos rfl⟩)) (fun b u z => ?_) (fun b z => ?_) fun _ => hk
    · by_cases hb : b = a
      · exact .inr ⟨_, _, if_pos hb⟩
      · exact .inl (if_neg hb)
    · by_cases hb : b = a
      · have z' := (if_pos hb).symm.trans z
        cases z'
        subst hb
        exact ⟨ha, by rw [List.length_map]; exact hl, vs, _, rv, ha⟩
      · have z' := (if_neg hb).symm.trans z
        cases z'
    · by_cases hb : b = a
      · exact hb
      · exact absurd (if_neg hb) z
end L2
namespace L2
open PySem PySem.Spec PyProof.Rows
noncomputable abbrev KOf {K : PySem.W.Frag} {h : Heap} (_ : K.In h) : PySem.W.Frag := K
theorem walk_of {l : PySem.W.OpenLaw} {n k : Nat} {q : Program} {loose : List Str} {XP : (Str -> Option Value) -> Heap -> Prop} {YP : World -> Heap -> Prop} {d : DefRec} {K : Params -> PySem.W.Frag} {CX : World -> CXT} {sp : World -> Sp} {x : Str}
    (hn : l.most = some n) (hn2 : n <= sizeLine) (hdf : d.params.defaults = []) (hr : Room k callerA)
    (hY : ∀ (w : World) (h : Heap), YP w h -> (K w.params).In h)
    (F : ∀ (w : World) (mg : Str -> Option Value) (fa : Addr) (h : Heap), (K w.params).In h -> h.Ns mainGlobals mg -> mg d.name = some (.ref fa) ->
      ∃ fd : FuncData, (∀ (s : Shared) (u : Value), BindsTo s fd ⟨[u], []⟩ [(x, u)]) /\
        ∀ base : Heap, (K w.params).In base -> base.Ns mainGlobals mg -> FnOk l.prog w (K w.params) mg base (CX w) k fa fd [x] (sp w))
    (hsp : ∀ (w : World) (H : Hp) (a : Addr) (ns : List Int), ns.length <= n -> Only H -> SqL (K w.params) H a (ns.map V.int) -> sp w [.ref a] H (fun v _ => v = .bl true) fun _ _ _ => False)
    (hCX : ∀ (w : World) (H : Hp) (s : Shared) (e : Value) (s' : Shared), CX w [] H s (fun _ _ _ => False) e s' -> False) :
    PySem.W.WalkO q loose XP YP l.row.toRowW d [] (fun f vs => PySem.call f vs) := by
  refine Att.attach_call hn hdf fun w s₀ s₁ mg mb fa o pm cd doc a vs ns G Y ho hd hcd hmg hobj hints hlen hg => ?_
  have KX := hY w _ Y
  obtain ⟨fd, hb, hF⟩ := F w mg fa _ KX G.T.g hmg
  exact law_call KX G.T.g G.T.b G.T.builtins G.T.nolimit hg hobj hints (Nat.le_trans hlen hn2) hr hF hb (fun H hO hS => hsp w H a ns hlen hO hS) fun H e s' => hCX w H s₁ e s'
end L2
/- THE LAST THEOREM (shape; LID, My.* are yours):
   My.Adr: a structure of the addresses that your layer names (classes, functions); My.Txt K t: a structure (Prop) of the equations over K;
   My.txt_mk : {K} {implicit addresses ..} (e1 : nsIn K mainGlobals "law" = some (some (.ref f))) (e2 : K.lookup f = some ⟨oc, od, .func (fnOf "law" "law" params body scope dV kV doc pm an cdv ct), sl⟩) (e3 : codeIn K cdv "law" = true) .. : ∃ t, My.Txt K t
set_option maxRecDepth 100000 in
set_option maxHeartbeats 0 in
theorem PySem.Challenge.cw_LID_holds : PySem.Challenge.rw_LID.Holds := by
  w_on; o_law; k_head; (case hw => w_witness2)
  k_fill
  refine L2.walk_of (l := PySem.Challenge.rw_LID) (n := 63) (k := 40) (x := "script") (CX := fun w => ..) (sp := fun _ => My.sp_law) rfl (by decide) rfl ⟨rfl, by decide, by decide⟩ (fun w h Y => PySem.W.kIn_of Y) ?F ?S ?C
  case F =>
    intro w mg fa h KX G hmg
    have T : ∃ t, My.Txt (L2.KOf KX) t := by
      dsimp only [L2.KOf]                          -- K must stand as «<heap const> w.params» for k_is
      refine' My.txt_mk ?e1 ?e2 ?e3 ..
      (case e1 => PySem.W.k_is)                    -- in the order: a name -> its address -> its object -> its parts
      (case e2 => PySem.W.k_is)
      ..
    obtain ⟨t, T⟩ := T
    have e0 := hmg.symm.trans (PySem.W.mg_of KX G T.law)
    cases e0                                       -- fa is the law's own address
    exact ⟨_, fun s u => .of_eq rfl, fun base kb nb => My.law_fn T kb nb⟩     -- if «.of_eq rfl» comes too early: refine' ⟨_, ?b, fun base kb nb => My.law_fn T kb nb⟩; exact fun s u => .of_eq rfl
  case S => exact fun w H a ns hl hO hS => ..
  case C => exact ..
(the tactic k_is has no namespace: write k_is) -/
namespace L2
open PySem PySem.Spec PyProof.Rows
noncomputable def defArgs (s : Stmt) : Arguments := match s with
  | .FunctionDef _ a _ _ _ _ _ _ _ _ => a
  | _ => { posonlyargs := [], args := [], vararg := none, kwonlyargs := [], kw_defaults := [], kwarg := none, defaults := [] }
noncomputable def defBody (s : Stmt) : List Stmt := match s with
  | .FunctionDef _ _ b _ _ _ _ _ _ _ => b
  | _ => []
noncomputable def defScope (s : Stmt) : Scope := match s with
  | .FunctionDef _ _ _ _ _ _ sc _ _ _ => sc
  | _ => { kind := .function, names := [], isGenerator := false, isCoroutine := false }
noncomputable abbrev CX0 : CXT := fun _ _ _ _ _ _ => False
noncomputable abbrev E0 : XK := fun _ _ _ => False
theorem pass0 {X : Cx} : Passes CX0 X E0 := fun _ _ _ _ _ _ _ h => h.elim
structure Fun (K : PySem.W.Frag) (x qual : Str) (st : Stmt) (f : Addr) (fd : FuncData) : Prop where
  ex : ∃ (oc : Value) (od : Option Addr) (kV doc pm : Value) (an : Option Addr) (cdv ct : Value) (osl : Array (Option Value)),
    fd = PySem.W.fnOf x qual (defArgs st) (defBody st) (defScope st) .none kV doc pm an cdv ct /\ K.lookup f = some ⟨oc, od, .func fd, osl⟩ /\ PySem.W.codeIn K cdv qual = true
  kp : PySem.W.keepIn K (.ref f) = true
section
variable {P : Program} {w : World} {K : PySem.W.Frag} {mg : Str -> Option Value} {base : Heap}
theorem Fun.ok {x qual : Str} {st : Stmt} {f : Addr} {fd : FuncData} {N ps : List Str} {k : Nat} {sp : Sp} (F : Fun K x qual st f fd) (S : FnScope N ps (defScope st)) (len : ∀ vs H Q E, sp vs H Q E -> vs.length = ps.length)
    (hbody : ∀ (cdv : Value) (A : Around) (outer : List Env) (s : Shared) (H : Hp) (vs : List V) (Q : VK) (E : XK), Room k (A.deeper (envOfC qual (defScope st) s.heap.objs.size f cdv)) -> sp vs H Q E ->
      ∃ t, PSs (cxOf CX0 P w K mg base N qual (defScope st) f cdv A outer s H E).nox (defBody st) t /\ t { nx := fun _ H' => Q .non H', rt := Q } (start N vs) H) : FnOk P w K mg base CX0 (k + 1) f fd ps sp := by
  obtain ⟨oc, od, kV, doc, pm, an, cdv, ct, osl, rfl, lk, hcd⟩ := F.ex
  refine fn_of lk hcd S len fun A outer s H vs Q E hr hsp => ?_
  obtain ⟨t, h, q⟩ := hbody cdv A outer s H vs Q E hr hsp
  exact ⟨t, h.nox, q⟩
theorem Fun.binds {x qual : Str} {st : Stmt} {f : Addr} {fd : FuncData} {ps : List Str} (F : Fun K x qual st f fd)
    (h : ∀ (kV doc pm : Value) (an : Option Addr) (cdv ct : Value) (us : List Value), us.length = ps.length -> bindArgs (PySem.W.fnOf x qual (defArgs st) (defBody st) (defScope st) .none kV doc pm an cdv ct) ⟨us, []⟩ = pure (ps.zip us)) : Binds K fd ps [] := by
  obtain ⟨oc, od, kV, doc, pm, an, cdv, ct, osl, rfl, lk, hcd⟩ := F.ex
  exact .all (h kV doc pm an cdv ct)
theorem fun_mk {x qual : Str} {st : Stmt} {f : Addr} {oc : Value} {od an : Option Addr} {osl : Array (Option Value)} {kV doc pm cdv ct : Value} (l : K.lookup f = some ⟨oc, od, .func (PySem.W.fnOf x qual (defArgs st) (defBody st) (defScope st) .none kV doc pm an cdv ct), osl⟩)
    (c : PySem.W.codeIn K cdv qual = true) (k : PySem.W.keepIn K (.ref f) = true) : Fun K x qual st f (PySem.W.fnOf x qual (defArgs st) (defBody st) (defScope st) .none kV doc pm an cdv ct) := ⟨⟨oc, od, kV, doc, pm, an, cdv, ct, osl, rfl, l, c⟩, k⟩
end
theorem hu_of {A : Around} {k : Nat} (hr : Room k A) : A.units + 1 < cLine := Nat.lt_of_le_of_lt (Nat.add_le_add_left (by decide : 1 <= 64) _) hr.units
section
variable {X : Cx}
theorem pv (i : Nat) {x : Str} {pos : Pos} (hN : X.N[i]? = some x := by rfl) (hv : Vis X.env.scope x := by first | exact Or.inl rfl | exact Or.inr (Or.inl rfl) | exact Or.inr (Or.inr rfl)) (hd : (x == ("__debug__" : Str)) = false := by decide)
    (hcd : (x == ("__classdict__" : Str)) = false := by decide) : PE X (.Name x pos) (tVar i) := pe_var hN hv hd hcd
end
theorem iteF {A B : Prop} (h : B) : if false = true then A else B := by
  rw [if_neg Bool.false_ne_true]
  exact h
theorem ite2 {c A B : Prop} [Decidable c] (h1 : c -> A) (h2 : ¬ c -> B) : if c then A else B := by
  by_cases h : c
  · rw [if_pos h]
    exact h1 h
  · rw [if_neg h]
    exact h2 h
noncomputable def Same (H H' : Hp) : Prop := ∀ b o, H b = some o -> H' b = some o
theorem Same.refl (H : Hp) : Same H H := fun _ _ h => h
theorem Same.trans {H H1 H2 : Hp} (a : Same H H1) (b : Same H1 H2) : Same H H2 := fun c o h => b c o (a c o h)
theorem Same.free {H H' : Hp} (e : Same H H') {l : Addr} (h : H' l = Option.none) : H l = Option.none := by
  cases q : H l with
  | none => rfl
  | some o =>
    rw [e l o q] at h
    cases h
theorem Same.seq {K : PySem.W.Frag} {H H' : Hp} {a : Addr} {xs : List V} (e : Same H H') (h : SqL K H a xs) : SqL K H' a xs := by
  rcases h with (h | ⟨o, h⟩) | h
  · exact .inl (.inl (e _ _ h))
  · exact .inl (.inr ⟨o, e _ _ h⟩)
  · exact .inr h
end L2
namespace L2
open PySem PySem.Spec PyProof.Rows
noncomputable def clOf (env : Env) : List (Str × NameKind) -> List (Str × Addr) -> List (Str × Addr)
  | [], acc => acc
  | (n, k) :: r, acc => clOf env r (if k == .free then (match env.cells.lookup n with | some a => (n, a) :: acc | none => acc) else acc)
theorem closureFor_loop {env : Env} : ∀ (names : List (Str × NameKind)) (acc : List (Str × Addr)), (∀ y ∈ names, y.2 = .free -> ∃ c, env.cells.lookup y.1 = some c) ->
    (forIn names acc fun (x : Str × NameKind) (cs : List (Str × Addr)) => (if (x.2 == NameKind.free) = true then do let a <- cellOf env x.1; pure (ForInStep.yield ((x.1, a) :: cs)) else pure (ForInStep.yield cs) : Sem (ForInStep (List (Str × Addr))))) = pure (clOf env names acc)
  | [], acc, _ => rfl
  | (n, k) :: r, acc, h => by
    rw [List.forIn_cons]
    have hr : ∀ y ∈ r, y.2 = .free -> ∃ c, env.cells.lookup y.1 = some c := fun y hy => h y (List.mem_cons_of_mem _ hy)
    cases hk : (k == NameKind.free) with
    | false =>
      have e1 : clOf env ((n, k) :: r) acc = clOf env r acc := by
        show clOf env r (if (k == NameKind.free) = true then (match env.cells.lookup n with | some a => (n, a) :: acc | none => acc) else acc) = _
        rw [hk, if_neg Bool.false_ne_true]
      rw [e1, <- closureFor_loop r acc hr]
      simp only [hk, Bool.false_eq_true, if_false, pure_bind]
    | true =>
      obtain ⟨c, hc⟩ := h (n, k) List.mem_cons_self (by simpa using hk)
      have e1 : clOf env ((n, k) :: r) acc = clOf env r ((n, c) :: acc) := by
        have hc' : env.cells.lookup n = some c := hc
        show clOf env r (if (k == NameKind.free) = true then (match env.cells.lookup n with | some a => (n, a) :: acc | none => acc) else acc) = _
        rw [hk, hc', if_pos rfl]
      have e2 : cellOf env n = pure c := by
        have hc' : env.cells.lookup n = some c := hc
        unfold cellOf
        rw [hc']
      rw [e1, <- closureFor_loop r ((n, c) :: acc) hr]
      simp only [hk, if_true, e2, pure_bind]
theorem closureFor_cl {scope : Scope} {env : Env} (h : ∀ y ∈ scope.names, y.2 = .free -> ∃ c, env.cells.lookup y.1 = some c) : closureFor scope env = pure (clOf env scope.names []) := by
  have e := closureFor_loop scope.names [] h
  simp only [closureFor]
  rw [e]
  rfl
theorem clOf_from {env : Env} {x : Str} {c : Addr} : ∀ (names : List (Str × NameKind)) (acc : List (Str × Addr)), (∀ y d, acc.lookup y = some d -> env.cells.lookup y = some d) -> (clOf env names acc).lookup x = some c -> env.cells.lookup x = some c
  | [], acc, ha, h => ha x c h
  | (n, k) :: r, acc, ha, h => by
    refine clOf_from r _ (fun y d q => ?_) h
    by_cases hk : (k == NameKind.free) = true
    · rw [if_pos hk] at q
      cases e : env.cells.lookup n with
      | none => rw [e] at q; exact ha y d q
      | some a =>
        rw [e] at q
        have q' : List.lookup y ((n, a) :: acc) = some d := q
        rw [List.lookup_cons] at q'
        cases hy : (y == n) with
        | true =>
          rw [hy] at q'
          have : y = n := by simpa using hy
          subst this
          rw [e]; exact q'
        | false => rw [hy] at q'; exact ha y d q'
    · rw [if_neg hk] at q; exact ha y d q
theorem clOf_acc {env : Env} {x : Str} : ∀ (names : List (Str × NameKind)) (acc : List (Str × Addr)), (∃ c, acc.lookup x = some c) -> ∃ c, (clOf env names acc).lookup x = some c
  | [], acc, h => h
  | (n, k) :: r, acc, ⟨c, hc⟩ => by
    refine clOf_acc r _ ?_
    by_cases hk : (k == NameKind.free) = true
    · rw [if_pos hk]
      cases e : env.cells.lookup n with
      | none => exact ⟨c, hc⟩
      | some a =>
        show ∃ c, List.lookup x ((n, a) :: acc) = some c
        rw [List.lookup_cons]
        cases hy : (x == n) with
        | true => exact ⟨a, rfl⟩
        | false => exact ⟨c, hc⟩
    · rw [if_neg hk]; exact ⟨c, hc⟩
theorem clOf_has {env : Env} {x : Str} : ∀ (names : List (Str × NameKind)) (acc : List (Str × Addr)), (∀ y ∈ names, y.2 = .free -> ∃ c, env.cells.lookup y.1 = some c) -> names.lookup x = some .free -> ∃ c, (clOf env names acc).lookup x = some c
  | [], acc, _, h => by simp at h
  | (n, k) :: r, acc, hf, h => by
    have hr : ∀ y ∈ r, y.2 = .free -> ∃ c, env.cells.lookup y.1 = some c := fun y hy => hf y (List.mem_cons_of_mem _ hy)
    rw [List.lookup_cons] at h
    cases hy : (x == n) with
    | true =>
      rw [hy] at h
      have hk : k = .free := Option.some.inj h
      subst hk
      have hx : x = n := by simpa using hy
      subst hx
      obtain ⟨c, hc⟩ := hf (x, .free) List.mem_cons_self rfl
      have hc' : env.cells.lookup x = some c := hc
      refine clOf_acc r _ ⟨c, ?_⟩
      rw [if_pos (show (NameKind.free == NameKind.free) = true by decide), hc']
      show List.lookup x ((x, c) :: acc) = some c
      rw [List.lookup_cons]
      simp
    | false =>
      rw [hy] at h
      exact clOf_has r _ hr h
theorem relabel_free {env : Env} : ∀ {names : List (Str × NameKind)} {x : Str}, names.lookup x = some .free ->
    ((names.map fun (n, k) => if (k == NameKind.free && env.scope.kind == .function && env.kindOf n == some .cell) then (n, NameKind.cell) else (n, k)).lookup x = some .cell \/
     (names.map fun (n, k) => if (k == NameKind.free && env.scope.kind == .function && env.kindOf n == some .cell) then (n, NameKind.cell) else (n, k)).lookup x = some .free)
  | [], _, h => by simp at h
  | (n, k) :: r, x, h => by
    have ih := @relabel_free env r x
    show (List.lookup x ((if (k == NameKind.free && env.scope.kind == .function && env.kindOf n == some .cell) = true then (n, NameKind.cell) else (n, k)) :: _) = _ \/ List.lookup x ((if (k == NameKind.free && env.scope.kind == .function && env.kindOf n == some .cell) = true then (n, NameKind.cell) else (n, k)) :: _) = _)
    cases hx : x == n with
    | true =>
      simp only [List.lookup_cons, hx] at h
      cases h
      by_cases hc : ((NameKind.free == NameKind.free) && env.scope.kind == .function && env.kindOf n == some .cell) = true
      · rw [if_pos hc]; simp [List.lookup_cons, hx]
      · rw [if_neg hc]; simp [List.lookup_cons, hx]
    | false =>
      simp only [List.lookup_cons, hx] at h
      by_cases hc : (k == NameKind.free && env.scope.kind == .function && env.kindOf n == some .cell) = true
      · rw [if_pos hc]; simp only [List.lookup_cons, hx]; exact ih h
      · rw [if_neg hc]; simp only [List.lookup_cons, hx]; exact ih h
theorem relabel_back {env : Env} : ∀ {names : List (Str × NameKind)} {x : Str}, (∀ y ∈ names, y.2 ≠ .cell) ->
    ((names.map fun (n, k) => if (k == NameKind.free && env.scope.kind == .function && env.kindOf n == some .cell) then (n, NameKind.cell) else (n, k)).lookup x = some .cell \/
     (names.map fun (n, k) => if (k == NameKind.free && env.scope.kind == .function && env.kindOf n == some .cell) then (n, NameKind.cell) else (n, k)).lookup x = some .free) -> names.lookup x = some .free
  | [], _, _, h => by simp at h
  | (n, k) :: r, x, hn, h => by
    have ih := @relabel_back env r x (fun y hy => hn y (List.mem_cons_of_mem _ hy))
    have hk := hn (n, k) List.mem_cons_self
    have h' : (List.lookup x ((if (k == NameKind.free && env.scope.kind == .function && env.kindOf n == some .cell) = true then (n, NameKind.cell) else (n, k)) :: (r.map fun (n, k) => if (k == NameKind.free && env.scope.kind == .function && env.kindOf n == some .cell) then (n, NameKind.cell) else (n, k))) = some .cell \/ List.lookup x ((if (k == NameKind.free && env.scope.kind == .function && env.kindOf n == some .cell) = true then (n, NameKind.cell) else (n, k)) :: (r.map fun (n, k) => if (k == NameKind.free && env.scope.kind == .function && env.kindOf n == some .cell) then (n, NameKind.cell) else (n, k))) = some .free) := h
    cases hx : x == n with
    | true =>
      rw [List.lookup_cons, hx]
      by_cases hc : (k == NameKind.free && env.scope.kind == .function && env.kindOf n == some .cell) = true
      · have : (k == NameKind.free) = true := by
          rw [Bool.and_eq_true, Bool.and_eq_true] at hc; exact hc.1.1
        have hk' : k = .free := by simpa using this
        rw [hk']
      · rw [if_neg hc] at h'
        simp only [List.lookup_cons, hx] at h'
        rcases h' with h' | h'
        · exact absurd (Option.some.inj h') hk
        · exact h'
    | false =>
      rw [List.lookup_cons, hx]
      by_cases hc : (k == NameKind.free && env.scope.kind == .function && env.kindOf n == some .cell) = true
      · rw [if_pos hc] at h'; simp only [List.lookup_cons, hx] at h'; exact ih h'
      · rw [if_neg hc] at h'; simp only [List.lookup_cons, hx] at h'; exact ih h'
noncomputable abbrev noE : Value -> Shared -> Prop := fun _ _ => False
theorem compLoop_gen {prog : Program} {w : World} {A : Around} {R : Result -> Shared -> Prop} {s : Shared} {elt target iter : Expr} {ifs : List Expr} {scope : Scope} {pos : Pos} {it acc : Value} {env : Env} (I : Nat -> Shared -> Prop)
    (turn : ∀ n s, I n s -> wpAny (model prog w) A (pyNext it) (fun r s₁ => match r with
      | none => R (.ok .next) s₁
      | some v => wpAny (model prog w) A (letOwnedTupleGo target it v) (fun _ s₁' => wpAny (model prog w) A (assign target env v) (fun _ s₂ =>
          wpAny (model prog w) A (forIn ifs true fun c r => if r = true then do let ok <- isTrue c env (eval c env); pure (ForInStep.yield ok) else pure (ForInStep.yield r)) (fun ok s₃ =>
            if ok = true then wpAny (model prog w) A (eval elt env) (fun x s₄ =>
              wpAny (model prog w) A (call (.builtin "list.append") [acc, x]) (fun _ s₅ => ∃ m, m < n /\ I m s₅) noE s₄) noE s₃
            else ∃ m, m < n /\ I m s₃) noE s₂) noE s₁') noE s₁) noE s)
    (n : Nat) (h : I n s) : codeAny (model prog w) A (.compLoop (.ListComp elt [⟨target, iter, ifs, 0⟩] scope pos) 0 it acc env) R s := by
  refine codeAny_loop rfl I (fun n s hI => ?_) n h
  show wpAny _ A ((compTurn (.ListComp elt [⟨target, iter, ifs, 0⟩] scope pos) 0 it acc env).onRaise (fun x => do noteFrame x env; theTreesLotGoes x)) _ _ s
  refine wpAny_noted ?_
  rw [compTurn_list]
  have no : ∀ {F : Value -> Shared -> Prop} (e : Value) (s' : Shared), noE e s' -> F e s' := fun _ _ h => h.elim
  refine wpAny_bind (wpAny_standAt (wpAny_bind (wpAny_mono (turn n s hI) (fun r s₁ h₁ => ?_) no)))
  cases r with
  | none => exact wpAny_pure h₁
  | some v =>
    refine wpAny_bind (wpAny_mono h₁ (fun _ s₁' h₁' => ?_) no)
    refine wpAny_bind (wpAny_mono h₁' (fun _ s₂ h₂ => wpAny_bind (wpAny_mono h₂ (fun ok s₃ h₃ => ?_) no)) no)
    cases ok with
    | false => exact wpAny_pure ⟨rfl, h₃⟩
    | true =>
      exact wpAny_bind (wpAny_bind (wpAny_mono h₃ (fun x s₄ h₄ => wpAny_bind (wpAny_mono h₄ (fun _ s₅ h₅ => wpAny_pure (wpAny_pure ⟨rfl, h₅⟩)) no)) no))
noncomputable def cxComp (X : Cx) (scope : Scope) (C : Addr) (Nc : List Str) (s : Shared) (H : Hp) (fp : List Addr) : Cx where
  prog := X.prog
  w := X.w
  K := X.K
  mg := X.mg
  base := X.base
  A := X.A
  N := Nc
  s₀ := s
  H₀ := H
  env := compEnvC scope (clOf X.env scope.names []) C X.env
  outer := X.stack
  stack := X.stack
  ex := fp
  fn := fun _ => false
  calm := X.calm
  pn := []
  xe := noE
noncomputable def IxOk (X : Cx) (scope : Scope) : List Str -> List (Option Nat) -> Prop
  | [], [] => True
  | _ :: ys, none :: os => IxOk X scope ys os
  | y :: ys, some j :: os => (X.N[j]? = some y /\ scope.names.lookup y = some .free /\ (X.env.kindOf y = some .cell \/ X.env.kindOf y = some .free)) /\ IxOk X scope ys os
  | _, _ => False
noncomputable def subSt (σ : St) (ix : List (Option Nat)) : St := ix.map fun o => match o with | none => none | some j => (σ[j]?).getD none
noncomputable def Wk : St -> St -> Prop
  | [], [] => True
  | none :: a, _ :: b => Wk a b
  | some v :: a, w :: b => w = some v /\ Wk a b
  | _, _ => False
theorem Wk.len : ∀ {a b : St}, Wk a b -> a.length = b.length
  | [], [], _ => rfl
  | none :: a, _ :: b, h => congrArg (· + 1) (Wk.len (a := a) (b := b) h)
  | some _ :: a, _ :: b, h => congrArg (· + 1) (Wk.len (a := a) (b := b) h.2)
theorem Wk.get : ∀ {a b : St} {i : Nat} {v : V}, Wk a b -> a[i]? = some (some v) -> b[i]? = some (some v)
  | [], [], i, v, _, h => by simp at h
  | none :: a, x :: b, 0, v, _, h => by simp at h
  | none :: a, x :: b, i + 1, v, k, h => by
    have := Wk.get (a := a) (b := b) (i := i) (v := v) k (by simpa using h)
    simpa using this
  | some y :: a, x :: b, 0, v, k, h => by
    have e : y = v := by simpa using h
    subst e
    simp [k.1]
  | some y :: a, x :: b, i + 1, v, k, h => by
    have := Wk.get (a := a) (b := b) (i := i) (v := v) k.2 (by simpa using h)
    simpa using this
theorem IxOk.len {X : Cx} {scope : Scope} : ∀ {N : List Str} {ix : List (Option Nat)}, IxOk X scope N ix -> ix.length = N.length
  | [], [], _ => rfl
  | _ :: ys, none :: os, h => congrArg (· + 1) (IxOk.len (N := ys) (ix := os) h)
  | _ :: ys, some _ :: os, h => congrArg (· + 1) (IxOk.len (N := ys) (ix := os) h.2)
theorem IxOk.get {X : Cx} {scope : Scope} : ∀ {N : List Str} {ix : List (Option Nat)} {i j : Nat}, IxOk X scope N ix -> ix[i]? = some (some j) -> ∃ y, N[i]? = some y /\ X.N[j]? = some y /\ scope.names.lookup y = some .free /\ (X.env.kindOf y = some .cell \/ X.env.kindOf y = some .free)
  | [], [], i, j, _, h => by simp at h
  | y :: ys, none :: os, 0, j, _, h => by simp at h
  | y :: ys, none :: os, i + 1, j, k, h => by
    obtain ⟨z, h1, h2⟩ := IxOk.get (N := ys) (ix := os) (i := i) (j := j) k (by simpa using h)
    exact ⟨z, by simpa using h1, h2⟩
  | y :: ys, some j' :: os, 0, j, k, h => by
    have e : j' = j := by simpa using h
    subst e
    exact ⟨y, by simp, k.1⟩
  | y :: ys, some j' :: os, i + 1, j, k, h => by
    obtain ⟨z, h1, h2⟩ := IxOk.get (N := ys) (ix := os) (i := i) (j := j) k.2 (by simpa using h)
    exact ⟨z, by simpa using h1, h2⟩
theorem subSt_get {σ : St} {ix : List (Option Nat)} {i : Nat} {v : V} (h : (subSt σ ix)[i]? = some (some v)) : ∃ j, ix[i]? = some (some j) /\ σ[j]? = some (some v) := by
  unfold subSt at h
  rw [List.getElem?_map] at h
  cases e : ix[i]? with
  | none => rw [e] at h; cases h
  | some o =>
    rw [e] at h
    cases o with
    | none => cases h
    | some j =>
      refine ⟨j, rfl, ?_⟩
      have h' : some ((σ[j]?).getD none) = some (some v) := h
      cases q : σ[j]? with
      | none => rw [q] at h'; cases h'
      | some z => rw [q] at h'; cases h'; rfl
end L2
namespace L2
open PySem PySem.Spec PyProof.Rows
theorem comp_start {X : Cx} {pins : List (Addr × Obj)} {σ : St} {H : Hp} {s : Shared} (I : Inv X pins σ H s) {scope : Scope} {Nc : List Str} {ix : List (Option Nat)} (hix : IxOk X scope Nc ix) (hcell : ∀ y ∈ scope.names, y.2 ≠ .cell)
    (hkind : scope.kind = .function) (hfr : ∀ y ∈ scope.names, y.2 = .free -> X.env.kindOf y.1 = some .cell \/ X.env.kindOf y.1 = some .free) {fp : List Addr} (hf : ∀ b ∈ fp, FpOk X pins H b) (hfo : ∀ b ∈ fp, ∃ o, s.heap.get? b = some o)
    {C : Addr} {h' : Heap} {t' : Nat} {m0 : Str -> Option Value} (hC : s.heap.objs.size <= C) (hns : h'.Ns C m0) (k : ∀ b o, s.heap.get? b = some o -> h'.get? b = some o) :
    Inv (cxComp X scope C Nc s H fp) [] (subSt σ ix) H { s with heap := h', toks := t' } := by
  have hfc : ∀ y ∈ scope.names, y.2 = .free -> ∃ c, X.env.cells.lookup y.1 = some c := fun y hy e => I.ok.has y.1 (hfr y hy e)
  have from_ : ∀ {x : Str} {c : Addr}, (clOf X.env scope.names []).lookup x = some c -> X.env.cells.lookup x = some c := fun {x c} e => clOf_from scope.names [] (fun y d q => by simp at q) e
  refine ⟨⟨I.ok.mod, hkind, I.ok.glob, I.ok.blt, hC, fun x y c h1 h2 => I.ok.inj x y c (from_ h1) (from_ h2), fun x hx => ?_, fun x c h => ?_, I.ok.hd, I.ok.frames, .inl rfl, fun b hb => ?_, I.bs, Nat.le_trans I.ok.bsz I.sz, fun b o e hb => ?_, fun b hb hs => ?_, I.stack, I.stkFree⟩,
    rfl, I.bare, Un.kept k, ⟨m0, hns, fun i x v h1 h2 h3 => ?_⟩, fun x c e => ?_, I.hok.fresh hC, fun x c e => I.freeC x c (from_ e), fun p hp => absurd (show p ∈ ([] : List (Addr × Obj)) from hp) (by simp), I.hok.kept k, ?_⟩
  · have hx' : scope.names.lookup x = some .free := relabel_back hcell hx
    exact clOf_has scope.names [] hfc hx'
  · exact absurd (show false = true from h) (by decide)
  · refine ⟨?_, fun x c e => (hf b hb).2.2.2.2.1 x c (from_ e)⟩
    obtain ⟨o, ho⟩ := hfo b hb
    exact Nat.ne_of_lt (Nat.lt_of_lt_of_le (Heap.lt_size ho) hC)
  · rcases (hf b hb).2.2.2.1 with z | z
    · exact I.ok.noex b o e z
    · exact absurd (Nat.lt_of_lt_of_le (Heap.lt_size e) (Nat.le_trans I.ok.bsz z)) (Nat.lt_irrefl _)
  · rcases List.mem_cons.mp (I.stkSub b hs) with z | z
    · exact (hf b hb).2.1 z
    · exact (hf b hb).2.2.1 z
  · obtain ⟨j, e1, e2⟩ := subSt_get h2
    obtain ⟨y, y1, y2, y3, y4⟩ := hix.get e1
    have h1' : Nc[i]? = some x := h1
    rw [y1] at h1'
    cases h1'
    obtain ⟨m, hn, hl⟩ := I.loc
    have hv : Vis X.env.scope x := by
      rcases y4 with z | z
      · exact .inr (.inl z)
      · exact .inr (.inr z)
    obtain ⟨u, r, l⟩ := hl j x v y2 e2 hv
    refine ⟨u, r, .inr ⟨relabel_free y3, ?_⟩⟩
    rcases l with ⟨l, _⟩ | ⟨_, c, hc, q⟩
    · rcases y4 with z | z
      · rw [z] at l; cases l
      · rw [z] at l; cases l
    · obtain ⟨c', hc'⟩ := clOf_has scope.names [] hfc y3
      have e := from_ hc'
      rw [hc] at e
      cases e
      obtain ⟨o, ho, hd⟩ := q
      exact ⟨c, hc', o, k _ _ ho, hd⟩
  · obtain ⟨v, o, ho, hd⟩ := I.cell x c (from_ e)
    exact ⟨v, o, k _ _ ho, hd⟩
  · show (subSt σ ix).length = Nc.length
    unfold subSt
    rw [List.length_map]
    exact hix.len
theorem comp_exit {X : Cx} {pins pins' : List (Addr × Obj)} {σ σ' : St} {H H' : Hp} {s s' : Shared} (I : Inv X pins σ H s) {scope : Scope} {Nc : List Str} {fp : List Addr} {C D : Addr} (J : Inv (cxComp X scope C Nc s H fp) pins' σ' H' s')
    (hf : ∀ b ∈ fp, FpOk X pins H b) (hD : s.heap.objs.size <= D) (hC : s.heap.objs.size <= C) (hDC : D ≠ C) {its : List Value} {n : Nat} {acc : List V} (eD : s'.heap.get? D = some { cls := .type "list", data := .seq its.toArray n }) (r : Vals acc its)
    (hz : acc.length <= sizeLine) (nD : H' D = none) {oC : Obj} (eC : s'.heap.get? C = some oC) (dC : ∀ v, oC.data ≠ .cell v) : Inv X (pins ++ [(C, oC)]) σ (upd H' D (.lst acc)) s' := by
  have lt : ∀ b o, s.heap.get? b = some o -> b ≠ D := fun b o e => Nat.ne_of_lt (Nat.lt_of_lt_of_le (Heap.lt_size e) hD)
  have U : Un (frs X.stack) fp H H' s.heap s'.heap := J.base
  have U' : Un (frs X.stack) fp H (upd H' D (.lst acc)) s.heap s'.heap :=
    ⟨U.keep, U.slot, fun b o e n hx => by rw [upd_ne (lt b o e)]; exact U.free b o e n hx, U.there, fun b xs e => by rw [upd_ne (ne_of_none (U.tups b xs e) nD)]; exact U.tups b xs e,
      fun b o u e => by rw [upd_ne (ne_of_none (U.frzs b o u e) nD)]; exact U.frzs b o u e, fun b ps e => by
        obtain ⟨more, q⟩ := U.tbls b ps e
        exact ⟨more, by rw [upd_ne (ne_of_none q nD)]; exact q⟩⟩
  have hok : HOk X.prog X.w (upd H' D (.lst acc)) s'.heap := fun b u e => by
    by_cases hb : b = D
    · subst hb
      rw [upd_same] at e; cases e
      exact ⟨hz, its, n, r, eD⟩
    · rw [upd_ne hb] at e
      exact (J.hok b u e).stay (fun c v _ q => q) (fun c q => by rw [upd_ne (ne_of_none q nD)]; exact q) fun c xs q => by rw [upd_ne (ne_of_none q nD)]; exact q
  have I' : Inv X pins σ (upd H' D (.lst acc)) s' := I.call' (ch := fp) J.os U' hok J.bare fun b hb => by
    obtain ⟨_, h1, _, h2, h3, h4⟩ := hf b hb
    exact ⟨h2, h1, h3, h4⟩
  refine I'.pins_of fun p hp => ?_
  rcases List.mem_append.mp hp with z | z
  · exact I'.pin p (List.mem_append_right _ z)
  · have e : p = (C, oC) := List.mem_singleton.mp z
    subst e
    refine ⟨eC, ?_, Nat.ne_of_gt (Nat.lt_of_lt_of_le I.lt hC), I.nofs hC, dC⟩
    rw [upd_ne (Ne.symm hDC)]
    exact J.free
noncomputable def PF (Y : Cx) (ifs : List Expr) (tc : TT) : Prop :=
  ∀ (pins : List (Addr × Obj)) (s : Shared) (σ : St) (H : Hp) (Q : Bool -> Hp -> Prop), Inv Y pins σ H s -> tc σ H Q ->
    wpAny (model Y.prog Y.w) Y.A (forIn ifs true fun c r => if r = true then do let ok <- isTrue c Y.env (eval c Y.env); pure (ForInStep.yield ok) else pure (ForInStep.yield r)) (TP Y pins σ Q) Y.xe s
noncomputable def tYes : TT := fun _ H Q => Q true H
theorem pf_nil {Y : Cx} : PF Y [] tYes := fun _ _ _ H _ I h => wpAny_tests_nil ⟨H, I, h⟩
theorem pf_one {Y : Cx} {c : Expr} {tc : TT} (h : PT Y c tc) : PF Y [c] tc := fun pins s σ H Q I hw => wpAny_tests_one (h pins s σ H Q I hw)
noncomputable def CompW (J : It) (σc : St) (g : TG) (tc : TT) (te : TE) (Q : VK) (H1 : Hp) : Prop :=
  ∃ W : Nat -> Nat -> List V -> Hp -> Prop, (∃ m, W 0 m [] H1) /\ ∀ i m acc H, W i m acc H -> acc.length < sizeLine /\
  ((J.stop i H /\ ∀ D, H D = none -> Q (.ref D) (upd H D (.lst acc))) \/
   (J.go i H /\ ∀ x H', J.yld i H x H' -> g x σc H' fun σ2 H2 => Wk σc σ2 /\ tc σ2 H2 fun b H3 => if b = true then te σ2 H3 fun v H4 => ∃ m', m' < m /\ W (i + 1) m' (acc ++ [v]) H4 else ∃ m', m' < m /\ W (i + 1) m' acc H3))
noncomputable def tComp (wi : TI) (ix : List (Option Nat)) (g : TG) (tc : TT) (te : TE) : TE := fun σ H Q => wi σ H fun J H1 => CompW J (subSt σ ix) g tc te Q H1
theorem comp_core {X : Cx} {tg iter elt : Expr} {ifs : List Expr} {scope : Scope} {pos : Pos} {wi : TI} {g : TG} {tc : TT} {te : TE} {Nc : List Str} {ix : List (Option Nat)} (hi : PI X tg iter wi) (hcalm : X.calm = true) (hix : IxOk X scope Nc ix)
    (hcell : ∀ y ∈ scope.names, y.2 ≠ .cell) (hkind : scope.kind = .function) (hfr : ∀ y ∈ scope.names, y.2 = .free -> X.env.kindOf y.1 = some .cell \/ X.env.kindOf y.1 = some .free)
    (hG : ∀ C s H fp, PG (cxComp X scope C Nc s H fp) tg g) (hT : ∀ C s H fp, PF (cxComp X scope C Nc s H fp) ifs tc) (hE : ∀ C s H fp, PE (cxComp X scope C Nc s H fp) elt te)
    {pins : List (Addr × Obj)} {s : Shared} {σ : St} {H : Hp} {Q : VK} (I : Inv X pins σ H s) (h : tComp wi ix g tc te σ H Q) {RR : Value -> Addr -> Result -> Shared -> Prop}
    (hRR : ∀ (D C : Addr) (oC : Obj) (m : Str -> Option Value) (H' : Hp) (s' : Shared), s'.heap.get? C = some oC -> s'.heap.Ns C m -> FpOk X pins H' C -> Inv X (pins ++ [(C, oC)]) σ H' s' -> Q (.ref D) H' -> RR (.ref D) C (.ok .next) s') :
    wpAny (model X.prog X.w) X.A (eval iter X.env) (fun v s1 => wpAny (model X.prog X.w) X.A (pyIter v) (fun it s2 => wpAny (model X.prog X.w) X.A (newList []) (fun acc s3 =>
      wpAny (model X.prog X.w) X.A (newFunctionEnv scope X.env.globals (clOf X.env scope.names []) [] X.env.qual none .none (some X.env)) (fun cenv s4 =>
        codeAny (model X.prog X.w) X.A (.compStart (.ListComp elt [⟨tg, iter, ifs, 0⟩] scope pos) 0 it acc { cenv with scope := relabel scope X.env }) (RR acc cenv.locals) s4) X.xe s3) X.xe s2) X.xe s1) X.xe s := by
  refine thn (hi pins s σ H _ I h) fun v s1 h1 => thn h1 fun itv s2 h2 => ?_
  obtain ⟨it, fp, tn, J, H2, e, I2, T, st2, f2, W, ⟨m0, w0⟩, turn⟩ := h2
  subst e
  refine wpAny_newObj_type (wpAny_newFunctionEnv hcell (by intro y hy; simp at hy) (fun h₁ hns₁ hsb₁ => ?_) hkind)
  dsimp only at hns₁ hsb₁ ⊢
  generalize hH2 : s2.heap.push { cls := .type "list", dict := none, data := .seq ([] : List Value).toArray } = P2 at hns₁ hsb₁ ⊢
  have hC : P2.objs.size = s2.heap.objs.size + 1 := by rw [<- hH2, Heap.size_push]
  have hDC : s2.heap.objs.size ≠ P2.objs.size := by rw [hC]; exact Nat.ne_of_lt (Nat.lt_succ_self _)
  have hCle : s2.heap.objs.size <= P2.objs.size := by rw [hC]; exact Nat.le_succ _
  have neC : ∀ b, b < s2.heap.objs.size -> b ≠ P2.objs.size := fun b hb => by rw [hC]; exact Nat.ne_of_lt (Nat.lt_succ_of_lt hb)
  have old : ∀ b o, s2.heap.get? b = some o -> h₁.get? b = some o := fun b o e => hsb₁.extBut b o (neC b (Heap.lt_size e)) (Heap.get?_push_of_some _ (hH2 ▸ Heap.get?_push_of_some _ e))
  have hacc : h₁.get? s2.heap.objs.size = some { cls := .type "list", data := .seq ([] : List Value).toArray } := hsb₁.extBut _ _ hDC (Heap.get?_push_of_some _ (hH2 ▸ Heap.get?_push_size _ rfl))
  have st₁ : tn 0 h₁ := T.keep 0 _ _ st2 fun b _ o e => old b o e
  have hfo : ∀ b ∈ fp, ∃ o, s2.heap.get? b = some o := fun b hb => let ⟨o, e, _⟩ := T.obj 0 _ st2 b hb; ⟨o, e⟩
  have fpD : ∀ b ∈ fp, s2.heap.objs.size ≠ b := fun b hb => let ⟨o, e⟩ := hfo b hb; Nat.ne_of_gt (Heap.lt_size e)
  have IY := comp_start I2 hix hcell hkind hfr f2 hfo (t' := s2.toks + ([] : List (Str × Value)).length) hCle hns₁ old
  have notS : ∀ b, s2.heap.objs.size <= b -> b ∉ frs X.stack := fun b hb hs => by
    rcases List.mem_cons.mp (I2.stkSub b hs) with z | z
    · exact absurd (Nat.lt_of_lt_of_le I2.lt hb) (by rw [z]; exact Nat.lt_irrefl _)
    · exact I2.nofs hb z
  have from_ : ∀ {x : Str} {c : Addr}, (clOf X.env scope.names []).lookup x = some c -> X.env.cells.lookup x = some c := fun {x c} e => clOf_from scope.names [] (fun y d q => by simp at q) e
  have cellD : ∀ x c, (clOf X.env scope.names []).lookup x = some c -> c ≠ s2.heap.objs.size := fun x c e z => by
    obtain ⟨v, q⟩ := I2.cell x c (from_ e)
    exact absurd (q.lt) (by rw [z]; exact Nat.lt_irrefl _)
  have fY : ∀ {pl : List (Addr × Obj)} {H' : Hp}, (∀ p ∈ pl, p.1 = s2.heap.objs.size) -> (∀ b ∈ fp, H' b = none) -> ∀ b ∈ fp, FpOk (cxComp X scope P2.objs.size Nc s2 H2 fp) pl H' b := fun {pl H'} hpl hn b hb => by
    refine ⟨hn b hb, ?_, ?_, .inl hb, fun x c e => (f2 b hb).2.2.2.2.1 x c (from_ e), fun p hp => ?_⟩
    · obtain ⟨o, e⟩ := hfo b hb
      exact neC b (Heap.lt_size e)
    · intro hs
      rcases List.mem_cons.mp (I2.stkSub b hs) with z | z
      · exact (f2 b hb).2.1 z
      · exact (f2 b hb).2.2.1 z
    · rw [hpl p hp]
      exact fpD b hb
  have loop : ∀ s₃ : Shared, s₃ = { s2 with heap := h₁, toks := s2.toks + ([] : List (Str × Value)).length } ->
      codeAny (model X.prog X.w) X.A (.compLoop (.ListComp elt [⟨tg, iter, ifs, 0⟩] scope pos) 0 (.ref it) (.ref s2.heap.objs.size) (compEnvC scope (clOf X.env scope.names []) P2.objs.size X.env)) (RR (.ref s2.heap.objs.size) P2.objs.size) s₃ := by
    rintro s₃ rfl
    refine compLoop_gen (fun n s' => ∃ i acc its nn H', Inv (cxComp X scope P2.objs.size Nc s2 H2 fp) [] (subSt σ ix) H' s' /\ tn i s'.heap /\ (∀ b ∈ fp, H' b = none) /\
      s'.heap.get? s2.heap.objs.size = some { cls := .type "list", data := .seq (its : List Value).toArray nn } /\ Vals acc its /\ H' s2.heap.objs.size = none /\ W i n acc H') ?_ m0
      ⟨0, [], [], 0, H2, IY, st₁, fun b hb => (f2 b hb).1, hacc, .nil, I2.hok.fresh (Nat.le_refl _), w0⟩
    rintro n s3 ⟨i, acc, its, nn, H3, I3, st3, fr3, eD, rv, nD, w3⟩
    obtain ⟨hz, alt⟩ := turn i n acc H3 w3
    have IP : Inv (cxComp X scope P2.objs.size Nc s2 H2 fp) [(s2.heap.objs.size, { cls := .type "list", data := .seq its.toArray nn })] (subSt σ ix) H3 s3 := I3.pins_of fun p hp => by
      have e : p = (s2.heap.objs.size, _) := List.mem_singleton.mp hp
      subst e
      refine ⟨eD, nD, hDC, notS _ (Nat.le_refl _), fun v z => ?_⟩
      have z' : Data.seq its.toArray nn = Data.cell v := z
      cases z'
    have hpl : ∀ p ∈ [(s2.heap.objs.size, ({ cls := .type "list", data := .seq its.toArray nn } : Obj))], p.1 = s2.heap.objs.size := fun p hp => by
      have e : p = (s2.heap.objs.size, _) := List.mem_singleton.mp hp
      rw [e]
    rcases alt with ⟨stop, fin⟩ | ⟨go, step⟩
    · refine thn (T.done (cxComp X scope P2.objs.size Nc s2 H2 fp) rfl rfl rfl hcalm i _ s3 _ H3 noE IP (fY hpl fr3) st3 stop) fun r s4 ⟨hr, I4⟩ => ?_
      subst hr
      obtain ⟨m, hn, _⟩ := id I4.loc
      obtain ⟨oC, es, ep, eC, dC, _⟩ := id hn
      have eD4 := (I4.pin (s2.heap.objs.size, _) (List.mem_append_right _ (List.mem_singleton.mpr rfl))).1
      have fin' := fin _ nD
      refine hRR _ _ oC m _ s4 eC hn ?_ (comp_exit I2 I4 f2 (Nat.le_refl _) hCle hDC eD4 rv (Nat.le_of_lt hz) nD eC fun v z => ?_) fin'
      · refine I2.fpOk hCle ?_
        rw [upd_ne (Ne.symm hDC)]
        exact I4.free
      · rw [dC] at z; cases z
    · refine thn (T.item (cxComp X scope P2.objs.size Nc s2 H2 fp) rfl rfl rfl hcalm i _ s3 _ H3 noE IP (fY hpl fr3) st3 go) fun r s4 ⟨u, hr, h4⟩ => ?_
      subst hr
      refine thn h4 fun _ s5 ⟨x, H5, I5, r5, y5, st5, fr5⟩ => ?_
      have I5' := I5.pinned (fY hpl fr5) (T.obj _ _ st5)
      refine thn (hG _ s2 H2 fp _ s5 _ H5 x u _ I5' r5 (step x H5 y5)) fun _ s6 ⟨σ6, H6, I6, wk, q6⟩ => ?_
      refine thn (hT _ s2 H2 fp _ s6 σ6 H6 _ I6 q6) fun b s7 ⟨H7, I7, q7⟩ => ?_
      have again : ∀ {H9 : Hp} {s9 : Shared} {m' : Nat}, Inv (cxComp X scope P2.objs.size Nc s2 H2 fp) ([(s2.heap.objs.size, ({ cls := .type "list", data := .seq its.toArray nn } : Obj))] ++ pinsAt fp s5.heap) σ6 H9 s9 ->
          (s9.heap.get? s2.heap.objs.size = some { cls := .type "list", data := .seq its.toArray nn } /\ H9 s2.heap.objs.size = none) /\ tn (i + 1) s9.heap /\ (∀ b ∈ fp, H9 b = none) /\ Inv (cxComp X scope P2.objs.size Nc s2 H2 fp) [] (subSt σ ix) H9 s9 := fun {H9 s9 m'} I9 => by
        have pD := I9.pin (s2.heap.objs.size, _) (List.mem_append_right _ (List.mem_append_left _ (List.mem_singleton.mpr rfl)))
        refine ⟨⟨pD.1, pD.2.1⟩, T.keep _ _ _ st5 fun b hb o e => (I9.pin (b, o) (List.mem_append_right _ (List.mem_append_right _ (mem_pinsAt hb e)))).1, fun b hb => ?_, ?_⟩
        · obtain ⟨o, e, d⟩ := T.obj _ _ st5 b hb
          exact (I9.pin (b, o) (List.mem_append_right _ (List.mem_append_right _ (mem_pinsAt hb e)))).2.1
        · exact (I9.weak wk.len fun i v e => wk.get e).pins_of fun p hp => absurd hp (by simp)
      cases b with
      | false =>
        rw [if_neg Bool.false_ne_true] at q7 ⊢
        obtain ⟨m', hm, w7⟩ := q7
        obtain ⟨⟨e7, n7⟩, t7, f7, J7⟩ := again (m' := 0) I7
        exact ⟨m', hm, i + 1, acc, its, nn, H7, J7, t7, f7, e7, rv, n7, w7⟩
      | true =>
        rw [if_pos rfl] at q7 ⊢
        refine thn (hE _ s2 H2 fp _ s7 σ6 H7 _ I7 q7) fun y s8 ⟨v, H8, I8, r8, m', hm, w8⟩ => ?_
        obtain ⟨⟨e8, n8⟩, t8, f8, J8⟩ := again (m' := 0) I8
        refine wpAny_list_append_plain (items := its.toArray) ⟨nn, e8⟩ (fun h9 hl9 hs9 => ?_) (by rw [List.size_toArray, <- rv.length]; exact Nat.le_of_lt hz)
        obtain ⟨n9, e9⟩ := hl9
        refine ⟨m', hm, i + 1, acc ++ [v], its ++ [y], n9, H8, J8.turned (t' := s8.toks) (fun b o hb e => (hs9.2 b hb).trans e) n8 hDC (.inr (Nat.le_refl _)) cellD (fun p hp => absurd hp (by simp [cxComp])), ?_, f8, ?_, rv.append (.cons r8 .nil), n8, w8⟩
        · exact T.keep _ _ _ t8 fun b hb o e => (hs9.2 b (Ne.symm (fpD b hb))).trans e
        · simpa using e9
  exact codeAny_compStart_list (loop _ rfl) (T.self _ 0 _ _ _ st₁ (loop _ rfl))
theorem pe_comp {X : Cx} {tg iter elt : Expr} {ifs : List Expr} {scope : Scope} {pos : Pos} {wi : TI} {g : TG} {tc : TT} {te : TE} (Nc : List Str) (ix : List (Option Nat)) (hi : PI X tg iter wi) (hcalm : X.calm = true) (hix : IxOk X scope Nc ix)
    (hcell : ∀ y ∈ scope.names, y.2 ≠ .cell) (hkind : scope.kind = .function) (hfr : ∀ y ∈ scope.names, y.2 = .free -> X.env.kindOf y.1 = some .cell \/ X.env.kindOf y.1 = some .free)
    (hnames : ∀ x ∈ scope.names, x.2 = .local -> scope.names.lookup x.1 = some .local)
    (hG : ∀ C s H fp, PG (cxComp X scope C Nc s H fp) tg g) (hT : ∀ C s H fp, PF (cxComp X scope C Nc s H fp) ifs tc) (hE : ∀ C s H fp, PE (cxComp X scope C Nc s H fp) elt te)
    (hs : ∀ x, foldedSetIterable iter X.env x = pure x := by intro _; rfl) : PE X (.ListComp elt [⟨tg, iter, ifs, 0⟩] scope pos) (tComp wi ix g tc te) := by
  intro pins s σ H Q I h
  rw [eval_ListComp]
  have hfc : ∀ y ∈ scope.names, y.2 = .free -> ∃ c, X.env.cells.lookup y.1 = some c := fun y hy e => I.ok.has y.1 (hfr y hy e)
  refine wpAny_comprehension_free (use := none) rfl hs (closureFor_cl hfc) hkind hnames (comp_core hi hcalm hix hcell hkind hfr hG hT hE I h (RR := fun acc C => compPost (model X.prog X.w) X.A X.xe none (EP X pins σ Q) acc C) ?_)
  intro D C oC m H' s' eC hn fC I' q
  refine ⟨m, hn, fun h' hs' => ⟨.ref D, H', ?_, rfl, q⟩⟩
  exact I'.unpinned.turned (t' := s'.toks) (fun b o hb e => (hs'.2 b hb).trans e) fC.1 fC.2.1 fC.2.2.2.1 fC.2.2.2.2.1 fC.2.2.2.2.2
end L2
namespace L2
open PySem PySem.Spec PyProof.Rows
noncomputable def S (l : List Nat) : Str := ⟨l.toArray⟩
theorem S_list (l : List Nat) : (S l).cps.toList = l := by simp [S]
theorem S_len (l : List Nat) : (S l).length = l.length := by simp [S, Str.length]
theorem S_size (l : List Nat) : (S l).cps.size = l.length := by simp [S]
theorem S_inj {a b : List Nat} (h : S a = S b) : a = b := by
  have := congrArg (fun x : Str => x.cps.toList) h
  simpa [S] using this
theorem S_of (x : Str) : x = S x.cps.toList := by cases x; simp [S]
theorem S_app (a b : List Nat) : S a ++ S b = S (a ++ b) := by
  apply Str.ext'
  apply Array.toList_inj.mp
  simp [S, Str.cps_append]
theorem dec_S {a b : List Nat} : decide (V.str (S a) = V.str (S b)) = decide (a = b) := by
  by_cases h : a = b
  · subst h; simp
  · rw [decide_eq_false h, decide_eq_false]
    intro q
    exact h (S_inj (V.str.inj q))
noncomputable def cut {α : Type} (xs : List α) (lo hi : Option Int) : List α := (xs.drop (HT.sIx xs.length 0 lo)).take (HT.sIx xs.length xs.length hi - HT.sIx xs.length 0 lo)
theorem cut_len {α : Type} (xs : List α) (lo hi : Option Int) : (cut xs lo hi).length <= xs.length := by
  unfold cut
  rw [List.length_take, List.length_drop]
  omega
theorem clip_sIx (n d : Nat) (v : Int) : max 0 (min (if v < 0 then v + (n : Int) else v) (n : Int)) = ((HT.sIx n d (some v) : Nat) : Int) := by
  show _ = (((if v < 0 then (v + (n : Int)).toNat else min v.toNat n) : Nat) : Int)
  by_cases hv : v < 0
  · simp only [if_pos hv]; omega
  · simp only [if_neg hv]; omega
theorem indices_sIx (lo hi : Option Int) (n : Nat) : Builtin.Str.strSliceIndices lo hi 1 n = (List.range (HT.sIx n n hi - HT.sIx n 0 lo)).map (HT.sIx n 0 lo + ·) := by
  have h1 : (1 : Int) > 0 := by decide
  rw [<- sliceRange_one]
  unfold Builtin.Str.strSliceIndices
  simp only [h1, if_true]
  congr 1
  · cases lo with
    | none => rfl
    | some v => exact clip_sIx n 0 v
  · cases hi with
    | none => rfl
    | some v => exact clip_sIx n n v
theorem slice_S (l : List Nat) (lo hi : Option Int) : Txt.slice (S l) lo hi = S (cut l lo hi) := by
  have hx : ((Builtin.Str.strSliceIndices lo hi 1 (S l).length).filterMap ((S l).cps[·]?)) = cut l lo hi := by
    rw [S_len, indices_sIx, pick_run, S_list]
    rfl
  have hlen : (Builtin.Str.strSliceIndices lo hi 1 (S l).length).length = HT.sIx l.length l.length hi - HT.sIx l.length 0 lo := by
    rw [S_len, indices_sIx, List.length_map, List.length_range]
  unfold Txt.slice
  by_cases hc : ((1 : Int) == 1 && (Builtin.Str.strSliceIndices lo hi 1 (S l).length).length == (S l).length) = true
  · rw [if_pos hc]
    rw [hlen, S_len] at hc
    have e : HT.sIx l.length l.length hi - HT.sIx l.length 0 lo = l.length := by simpa using hc
    have h2 := HT.sIx_le l.length l.length (Nat.le_refl _) hi
    have e0 : HT.sIx l.length 0 lo = 0 \/ l.length = 0 := by omega
    unfold cut
    rw [e]
    rcases e0 with z | z
    · rw [z]; simp
    · have : l = [] := List.eq_nil_of_length_eq_zero z
      subst this
      simp
  · rw [if_neg hc]
    rw [hx]
    rfl
section
variable {X : Cx}
theorem pe_S {x : Str} {j pos} (l : List Nat) (h : x = S l) : PE X (.Constant (.str x) j pos) (tC (.str (S l))) := by
  subst h
  exact pe_str
noncomputable def rAddS : R2 := fun x y H Q => ∃ a b, x = .str (S a) /\ y = .str (S b) /\ a.length + b.length <= sizeLine /\ Q (.str (S (a ++ b))) H
theorem op_addS : OpR X (binaryOp .Add) rAddS := by
  intro pins s σ H x y v u Q I rx ry h
  obtain ⟨a, b, rfl, rfl, hz, q⟩ := h
  exact op_add_str pins s σ H _ _ v u Q I rx ry ⟨S a, S b, rfl, rfl, by rw [S_len, S_len]; exact hz, by rw [S_app]; exact q⟩
noncomputable def rIxS' : R2 := fun x y H Q => ∃ l i c, x = .str (S l) /\ y = .int i /\ l.length <= sizeLine /\ atI l i = some c /\ Q (.str (S [c])) H
theorem ix_S : IxR X rIxS' := by
  intro value slice pins s σ H x y v u Q I rx ry h hs
  obtain ⟨l, i, c, rfl, rfl, hz, he, q⟩ := h
  exact ix_str value slice pins s σ H _ _ v u Q I rx ry ⟨S l, i, c, rfl, rfl, by rw [S_len]; exact hz, by rw [S_list]; exact he, q⟩ hs
noncomputable def rSlS : V -> Option Int -> Option Int -> Hp -> VK -> Prop := fun x lo hi H Q => ∃ l, x = .str (S l) /\ l.length <= sizeLine /\ Q (.str (S (cut l lo hi))) H
theorem sl_S : SlR X rSlS := by
  intro pins s σ H x v vl vu lo hi sl Q I rx hs pl pu h
  obtain ⟨l, rfl, hz, q⟩ := h
  obtain ⟨t, rfl⟩ := rx
  refine ⟨"str", _, F.slot_str_getitem.lookup, typeIs_str _ _ _, ?_⟩
  have key : ∀ (a b : Option (Int × Tok)), vl = partValue a -> vu = partValue b -> a.map (·.1) = lo -> b.map (·.1) = hi -> wpAny (model X.prog X.w) X.A (getItem (.str (S l) t) (.ref sl)) (EP X pins σ Q) X.xe s := by
    rintro a b rfl rfl rfl rfl
    obtain ⟨o, e, c, d⟩ := hs
    refine wpAny_getItem_str_slice (l := a) (u := b) (st := none) ⟨o, e, c, d⟩ rfl (post_val_or_str ⟨?_, fun t' k => ?_⟩)
    · exact Nat.le_trans (Txt.slice_le (S l) _ _) (by rw [S_len]; exact hz)
    · exact ⟨.str (S (cut l _ _)), H, I.tok _, ⟨t', congrArg (fun z => Value.str z t') (slice_S l _ _)⟩, q⟩
  cases pl with
  | none =>
    cases pu with
    | none => exact key none none rfl rfl rfl rfl
    | int i ti => exact key none (some (i, ti)) rfl rfl rfl rfl
  | int i ti =>
    cases pu with
    | none => exact key (some (i, ti)) none rfl rfl rfl rfl
    | int j tj => exact key (some (i, ti)) (some (j, tj)) rfl rfl rfl rfl
theorem call_lenS : CallR X (.builtin "len") (fun xs H Q => ∃ l, xs = [.str (S l)] /\ l.length <= sizeLine /\ Q (.int l.length) H) := by
  intro pins s σ H xs us Q I r h
  obtain ⟨l, rfl, hz, q⟩ := h
  exact call_len_str pins s σ H _ us Q I r ⟨S l, rfl, by rw [S_len]; exact hz, by rw [S_len]; exact q⟩
noncomputable def sgs (l : List Nat) : List V := l.map fun c => V.str (S [c])
theorem vals_signs {l : List Nat} : ∀ {acc : List Value} , acc.length = l.length -> (∀ j v, acc[j]? = some v -> SignAt (S l) j v) -> Vals (sgs l) acc := by
  induction l with
  | nil => intro acc h _; have : acc = [] := List.eq_nil_of_length_eq_zero h; subst this; exact .nil
  | cons c l ih =>
    intro acc h k
    cases acc with
    | nil => cases h
    | cons a acc =>
      refine .cons ?_ (ih (by simpa using h) fun j v e => ?_)
      · obtain ⟨c', u, e1, e2⟩ := k 0 a rfl
        have : c = c' := by simpa [S] using e1
        subst this
        exact ⟨u, e2⟩
      · obtain ⟨c', u, e1, e2⟩ := k (j + 1) v (by simpa using e)
        exact ⟨c', u, by simpa [S] using e1, e2⟩
theorem call_listS (hc : X.calm = true) : CallR X (.type "list") (fun xs H Q => ∃ l, xs = [.str (S l)] /\ l.length <= sizeLine /\ ∀ p, H p = none -> Q (.ref p) (upd H p (.lst (sgs l)))) := by
  intro pins s σ H xs us Q I r h
  obtain ⟨l, rfl, hz, q⟩ := h
  obtain ⟨u, rfl, t, rfl⟩ := vals1 r
  refine call_list_str (I.ok.hd hc) (S l) t (fun h' tk acc' c' hk e hacc => ?_) (by rw [S_size]; exact hz)
  obtain ⟨h1, h2⟩ := hacc
  rw [S_size] at h1
  refine ⟨.ref s.heap.objs.size, _, I.laid (t' := tk) (o := .lst (sgs l)) hk (Nat.le_refl _) ?_, rfl, q _ I.fresh⟩
  exact ⟨by unfold sgs; rw [List.length_map]; exact hz, acc'.toList, c', vals_signs (by simpa using h1) (fun j v e => h2 j v (by simpa using e)), by simpa using e⟩
noncomputable def rInS : R2 := fun x y H Q => ∃ c l, x = .str (S [c]) /\ y = .str (S l) /\ Q (.bl (decide (c ∈ l))) H
theorem op_inS : OpR X (compareOp .In) rInS := by
  intro pins s σ H x y v u Q I rx ry h
  obtain ⟨c, l, rfl, rfl, q⟩ := h
  refine op_in_str pins s σ H _ _ v u Q I rx ry ⟨S [c], S l, rfl, rfl, ?_⟩
  have e := StrLaws.found_one (S l) c
  rw [S_list] at e
  rw [show (S [c]) = (⟨#[c]⟩ : Str) from rfl, e]
  exact q
noncomputable def rNinS : R2 := fun x y H Q => ∃ c l, x = .str (S [c]) /\ y = .str (S l) /\ Q (.bl (!decide (c ∈ l))) H
theorem op_ninS : OpR X (compareOp .NotIn) rNinS := by
  intro pins s σ H x y v u Q I rx ry h
  obtain ⟨c, l, rfl, rfl, q⟩ := h
  refine op_notIn_str pins s σ H _ _ v u Q I rx ry ⟨S [c], S l, rfl, rfl, ?_⟩
  have e := StrLaws.found_one (S l) c
  rw [S_list] at e
  rw [show (S [c]) = (⟨#[c]⟩ : Str) from rfl, e]
  exact q
end
end L2
namespace L2
open PySem PySem.Spec PyProof.Rows
theorem occ_stays (s sub : Str) (hi : Nat) : ∀ (l : List Nat) (st : Array Nat × Nat), 1 <= st.fst.size -> (forIn l st (StrLaws.occBody s sub hi 1)).run.fst = st.fst
  | [], st, h => rfl
  | a :: l, st, h => by
    rw [List.forIn_cons]
    unfold StrLaws.occBody
    rw [if_neg (fun z => absurd z.1.1.1 (Nat.not_lt.mpr h))]
    exact occ_stays s sub hi l _ h
theorem occ_first (s sub : Str) (hi : Nat) : ∀ (l : List Nat) (free : Nat), (∀ i ∈ l, free <= i) ->
    (forIn l ((#[] : Array Nat), free) (StrLaws.occBody s sub hi 1)).run.fst.toList = (l.find? fun i => decide (i + sub.length <= hi) && Builtin.Str.subAt s sub i).toList
  | [], free, _ => rfl
  | a :: l, free, hf => by
    rw [List.forIn_cons, List.find?_cons]
    unfold StrLaws.occBody
    have ha : free <= a := hf a List.mem_cons_self
    by_cases hc : a + sub.length <= hi /\ Builtin.Str.subAt s sub a = true
    · rw [if_pos ⟨⟨⟨by simp, ha⟩, hc.1⟩, hc.2⟩]
      have : (decide (a + sub.length <= hi) && Builtin.Str.subAt s sub a) = true := by simp [hc]
      rw [this]
      show (forIn l (#[].push a, a + sub.length) (StrLaws.occBody s sub hi 1)).run.fst.toList = _
      rw [occ_stays s sub hi l _ (by simp)]
      rfl
    · rw [if_neg (fun z => hc ⟨z.1.2, z.2⟩)]
      have : (decide (a + sub.length <= hi) && Builtin.Str.subAt s sub a) = false := by
        cases h1 : decide (a + sub.length <= hi) with
        | false => rfl
        | true =>
          cases h2 : Builtin.Str.subAt s sub a with
          | false => rfl
          | true => exact absurd ⟨of_decide_eq_true h1, h2⟩ hc
      rw [this]
      exact occ_first s sub hi l free fun i hi' => hf i (List.mem_cons_of_mem _ hi')
theorem subAt_one (l : List Nat) (c i : Nat) : Builtin.Str.subAt (S l) (S [c]) i = (l[i]? == some c) := by
  unfold Builtin.Str.subAt
  rw [S_len]
  show ((S l).cps.extract i (i + 1) == #[c]) = _
  have e : ((S l).cps.extract i (i + 1)) = ((l.drop i).take 1).toArray := by
    apply Array.toList_inj.mp
    simp [S, List.take_drop]
  rw [e]
  by_cases h : i < l.length
  · have e2 : (l.drop i).take 1 = [l[i]] := by
      rw [List.drop_eq_getElem_cons h]; rfl
    rw [e2, List.getElem?_eq_getElem h]
    by_cases hc : l[i] = c
    · rw [hc]; simp
    · have h1 : ([l[i]].toArray == #[c]) = false := by
        rw [beq_eq_false_iff_ne]
        intro z
        apply hc
        have := congrArg Array.toList z
        simpa using this
      have h2 : (some l[i] == some c) = false := by simpa using hc
      rw [h1, h2]
  · have e2 : (l.drop i).take 1 = [] := by rw [List.drop_eq_nil_of_le (by omega)]; rfl
    rw [e2, List.getElem?_eq_none (by omega)]
    rfl
theorem find_idx (l : List Nat) (c : Nat) : ∀ (k n : Nat), k + n = l.length + 1 -> ((List.range' k n).find? fun i => decide (i + 1 <= l.length) && (l[i]? == some c)) = if c ∈ l.drop k then some (k + (l.drop k).idxOf c) else none
  | k, 0, h => by
    have : l.drop k = [] := List.drop_eq_nil_of_le (by omega)
    rw [this]; simp
  | k, n + 1, h => by
    rw [List.range'_succ, List.find?_cons]
    by_cases hk : k < l.length
    · have e : l.drop k = l[k] :: l.drop (k + 1) := List.drop_eq_getElem_cons hk
      rw [List.getElem?_eq_getElem hk, e]
      by_cases hc : l[k] = c
      · have : (decide (k + 1 <= l.length) && (some l[k] == some c)) = true := by simp [hc]; omega
        rw [this, if_pos (by simp [hc])]
        simp [hc]
      · have : (decide (k + 1 <= l.length) && (some l[k] == some c)) = false := by simp [hc]
        rw [this, find_idx l c (k + 1) n (by omega)]
        have hc' : ¬ c = l[k] := fun z => hc z.symm
        by_cases hm : c ∈ l.drop (k + 1)
        · rw [if_pos hm, if_pos (List.mem_cons_of_mem _ hm), List.idxOf_cons]
          have : (l[k] == c) = false := by simpa using hc
          rw [this]
          show some (k + 1 + List.idxOf c (List.drop (k + 1) l)) = some (k + (List.idxOf c (List.drop (k + 1) l) + 1))
          congr 1
          omega
        · rw [if_neg hm, if_neg (by intro z; rcases List.mem_cons.mp z with z | z; exact hc' z; exact hm z)]
    · have : l.drop k = [] := List.drop_eq_nil_of_le (by omega)
      have e1 : (decide (k + 1 <= l.length) && (l[k]? == some c)) = false := by
        rw [decide_eq_false (by omega)]; rfl
      have e2 : l.drop (k + 1) = [] := List.drop_eq_nil_of_le (by omega)
      rw [e1, find_idx l c (k + 1) n (by omega), this, e2]
      simp
theorem occ_S (l : List Nat) (c : Nat) : Builtin.Str.occurrences (S l) (S [c]) 0 (S l).length 1 = if c ∈ l then [l.idxOf c] else [] := by
  rw [StrLaws.occ_eq, occ_first _ _ _ _ 0 fun _ _ => Nat.zero_le _]
  have e : (fun i => decide (i + (S [c]).length <= (S l).length) && Builtin.Str.subAt (S l) (S [c]) i) = fun i => decide (i + 1 <= l.length) && (l[i]? == some c) := by
    funext i
    rw [subAt_one, S_len, S_len]
    rfl
  rw [e, S_len, Nat.sub_zero, find_idx l c 0 (l.length + 1) (by omega), List.drop_zero]
  by_cases h : c ∈ l
  · rw [if_pos h, if_pos h, Nat.zero_add]; rfl
  · rw [if_neg h, if_neg h]; rfl
section
variable {X : Cx}
noncomputable def rIndexS : V -> List V -> Hp -> VK -> Prop := fun x vs H Q => ∃ l c, x = .str (S l) /\ vs = [.str (S [c])] /\ c ∈ l /\ Q (.int (l.idxOf c : Nat)) H
theorem mt_indexS : MtR X "str.index" rIndexS := by
  intro pins s σ H x xs v us Q I rx rv h
  obtain ⟨l, c, rfl, rfl, hc, q⟩ := h
  obtain ⟨t, rfl⟩ := rx
  obtain ⟨u, rfl, t', rfl⟩ := vals1 rv
  exact SC.index (i := l.idxOf c) (rest := []) (by rw [occ_S, if_pos hc]) ⟨.int (l.idxOf c : Nat), H, I.tok _, ⟨_, rfl⟩, q⟩
noncomputable def rLowS (f : Nat -> Bool) : V -> List V -> Hp -> VK -> Prop := fun x vs H Q => ∃ c, x = .str (S [c]) /\ vs = [] /\ c < 128 /\ Q (.bl (f c)) H
noncomputable def rUpS (f : Nat -> Nat) : V -> List V -> Hp -> VK -> Prop := fun x vs H Q => ∃ c, x = .str (S [c]) /\ vs = [] /\ c < 128 /\ Q (.str (S [f c])) H
noncomputable def isLow (c : Nat) : Bool := decide (97 <= c) && decide (c <= 122)
noncomputable def isUp (c : Nat) : Bool := decide (65 <= c) && decide (c <= 90)
theorem low_all : ∀ c, c < 128 -> Txt.islower ⟨#[c]⟩ = isLow c := by decide +kernel
theorem up_all : ∀ c, c < 128 -> Txt.isupper ⟨#[c]⟩ = isUp c := by decide +kernel
theorem mt_islower : MtR X "str.islower" (rLowS isLow) := by
  intro pins s σ H x xs v us Q I rx rv h
  obtain ⟨c, rfl, rfl, hc, q⟩ := h
  obtain ⟨t, rfl⟩ := rx
  have e : us = [] := by cases rv; rfl
  subst e
  exact SC.islower ⟨.bl (isLow c), H, I, congrArg Value.bool (low_all c hc), q⟩
theorem mt_isupper : MtR X "str.isupper" (rLowS isUp) := by
  intro pins s σ H x xs v us Q I rx rv h
  obtain ⟨c, rfl, rfl, hc, q⟩ := h
  obtain ⟨t, rfl⟩ := rx
  have e : us = [] := by cases rv; rfl
  subst e
  exact SC.isupper ⟨.bl (isUp c), H, I, congrArg Value.bool (up_all c hc), q⟩
theorem upper_one {c : Nat} (hc : c < 128) : Txt.upper (S [c]) = S [up1 c] := by
  rw [upper_ascii (by intro d hd; rw [S_list] at hd; simp at hd; omega)]
  simp [S]
theorem lower_one {c : Nat} (hc : c < 128) : Txt.lower (S [c]) = S [lo1 c] := by
  rw [lower_ascii (by intro d hd; rw [S_list] at hd; simp at hd; omega)]
  simp [S]
theorem fits1 (c : Nat) : Builtin.Str.tooLong (S [c]).length = false := by
  rw [S_len]
  show Builtin.Str.tooLong 1 = false
  decide
theorem mt_upper : MtR X "str.upper" (rUpS up1) := by
  intro pins s σ H x xs v us Q I rx rv h
  obtain ⟨c, rfl, rfl, hc, q⟩ := h
  obtain ⟨t, rfl⟩ := rx
  have e : us = [] := by cases rv; rfl
  subst e
  exact SC.upper (by rw [upper_one hc]; exact fits1 _) ⟨.str (S [up1 c]), H, I.tok _, ⟨_, congrArg (fun z => Value.str z _) (upper_one hc)⟩, q⟩
theorem mt_lower : MtR X "str.lower" (rUpS lo1) := by
  intro pins s σ H x xs v us Q I rx rv h
  obtain ⟨c, rfl, rfl, hc, q⟩ := h
  obtain ⟨t, rfl⟩ := rx
  have e : us = [] := by cases rv; rfl
  subst e
  exact SC.lower (by rw [lower_one hc]; exact fits1 _) ⟨.str (S [lo1 c]), H, I.tok _, ⟨_, congrArg (fun z => Value.str z _) (lower_one hc)⟩, q⟩
theorem glue_S : ∀ (ls : List (List Nat)) (a : Array Nat), (ls.map S).foldl (fun acc p => acc ++ (S []).cps ++ p.cps) a = a ++ ls.flatten.toArray
  | [], a => by simp
  | l :: ls, a => by
    rw [List.map_cons, List.foldl_cons, glue_S ls]
    simp [S]
theorem join_S (ls : List (List Nat)) : Txt.join (S []) (ls.map S) = S ls.flatten := by
  unfold Txt.join Builtin.Str.glued
  cases ls with
  | nil => rfl
  | cons l ls =>
    show Str.mk ((List.map S ls).foldl (fun acc p => acc ++ (S []).cps ++ p.cps) (S l).cps) = _
    rw [glue_S]
    simp [S]
theorem strsAre_of : ∀ {ls : List (List Nat)} {us : List Value}, Vals (ls.map fun l => V.str (S l)) us -> StrsAre us (ls.map S)
  | [], us, r => by cases r; exact .nil
  | l :: ls, us, r => by
    cases r with
    | cons r1 r2 =>
      obtain ⟨t, rfl⟩ := r1
      exact .cons _ t (strsAre_of r2)
noncomputable def rJoinS (K : PySem.W.Frag) : V -> List V -> Hp -> VK -> Prop := fun x vs H Q => ∃ (p : Addr) (ls : List (List Nat)), x = .str (S []) /\ vs = [.ref p] /\ SqL K H p (ls.map fun l => V.str (S l)) /\ (ls.map List.length).sum <= 16777216 /\ Q (.str (S ls.flatten)) H
theorem mt_joinS : MtR X "str.join" (rJoinS X.K) := by
  intro pins s σ H x xs v us Q I rx rv h
  obtain ⟨p, ls, rfl, rfl, hq, hz, q⟩ := h
  obtain ⟨t, rfl⟩ := rx
  obtain ⟨u, rfl, ru⟩ := vals1 rv
  cases ru
  obtain ⟨its, r, pl, _⟩ := I.list hq
  have e : (S []).length = 0 := rfl
  refine join_list pl.isList (by simpa using strsAre_of r) ?_ fun t' k => ?_
  · rw [e, Nat.mul_zero, Nat.add_zero, List.map_map]
    have e2 : (Str.length ∘ S) = List.length := by funext l; exact S_len l
    have e3 : ((fun x : Str => x.length) ∘ S) = List.length := by funext l; exact S_len l
    first | (rw [e2]; exact hz) | (rw [e3]; exact hz)
  · exact ⟨.str (S ls.flatten), H, I.tok _, ⟨t', congrArg (fun z => Value.str z t') (join_S ls)⟩, q⟩
end
end L2
namespace L2.F2
open PySem PySem.Spec PyProof.Rows
end L2.F2
namespace L2
open PySem PySem.Spec PyProof.Rows
section
variable {prog : Program} {w : World} {A : Around} {E : Value -> Shared -> Prop} {s : Shared}
noncomputable def IsRevS (h : Heap) (it : Addr) (x : Str) (t : Tok) (i : Int) : Prop := ∃ o, h.get? it = some o /\ o.cls = .type "reversed" /\ o.data = .fields #[.str x t, rawInt i]
end
noncomputable def Itx (xs : List V) : It := ⟨fun i _ => i < xs.length, fun i H x H' => H' = H /\ xs[i]? = some x, fun i _ => xs.length <= i⟩
theorem sgs_get {l : List Nat} {i : Nat} {x : V} (h : (sgs l)[i]? = some x) : ∃ c, l[i]? = some c /\ x = .str (S [c]) := by
  unfold sgs at h
  rw [List.getElem?_map] at h
  cases e : l[i]? with
  | none => rw [e] at h; cases h
  | some c => rw [e] at h; cases h; exact ⟨c, rfl, rfl⟩
theorem sgs_len (l : List Nat) : (sgs l).length = l.length := by unfold sgs; rw [List.length_map]
theorem turn_str {P : Program} {w : World} {K : PySem.W.Frag} {tg : Expr} (it : Addr) (l : List Nat) (t : Tok) : Turn P w K tg (Itx (sgs l)) [it] it (fun i h => h.IsStrIter it (strIterType (S l)) (S l) t i) where
  mem := by simp
  obj := fun i h st b hb => by
    have e : b = it := by simpa using hb
    subst e
    obtain ⟨o, e, c, d⟩ := st
    exact ⟨o, e, fun v z => by rw [d] at z; cases z⟩
  keep := fun i h h' st k => let ⟨o, e, r⟩ := st; ⟨o, k it (by simp) o e, r⟩
  item := by
    intro X hP hw hK hc i pins s σ H E I hf st hg
    subst hP hw hK
    have hg' : i < l.length := by have : i < (sgs l).length := hg; rwa [sgs_len] at this
    obtain ⟨f0, f1, f2, f3, f4, f5⟩ := hf it (by simp)
    have fin : ∀ (v : Value) (h' : Heap) (tk : Nat), SignAt (S l) i v -> h'.IsStrIter it (strIterType (S l)) (S l) t (i + 1) -> (∀ b o, b ∉ [it] -> s.heap.get? b = some o -> h'.get? b = some o) ->
        ∃ u, some v = some u /\ wpAny (model X.prog X.w) X.A (letOwnedTupleGo tg (.ref it) u) (fun _ s2 => ∃ x H', Inv X pins σ H' s2 /\ RelV x u /\ (Itx (sgs l)).yld i H x H' /\ s2.heap.IsStrIter it (strIterType (S l)) (S l) t (i + 1) /\ ∀ b ∈ [it], H' b = none) E { s with heap := h', toks := tk } := by
      intro v h' tk hv st' kk
      obtain ⟨c, u, e1, e2⟩ := hv
      subst e2
      have I1 : Inv X pins σ H { s with heap := h', toks := tk } := I.turned (fun b o hb e => kk b o (by simpa using hb) e) f0 f1 f3 f4 f5
      obtain ⟨o, e, cc, d⟩ := id st'
      refine ⟨_, rfl, go_of (s := { s with heap := h', toks := tk }) e cc d (by unfold strIterType; split <;> decide) ⟨.str (S [c]), H, I1, ⟨u, rfl⟩, ⟨rfl, ?_⟩, st', fun b hb => (hf b hb).1⟩⟩
      unfold sgs
      rw [List.getElem?_map]
      have e1' : l[i]? = some c := by simpa [S] using e1
      rw [e1']
      rfl
    have hsz : i < (S l).cps.size := by rw [S_size]; exact hg'
    by_cases ha : (S l).cps.all (· < 128) = true
    · have et : strIterType (S l) = "str_ascii_iterator" := by unfold strIterType; rw [if_pos ha]
      rw [et] at st
      exact (Walks.strAscii (prog := X.prog) (w := X.w) (I.ok.hd hc) it (S l) t).item i s _ _ hsz st fun v h' tk hv st' kk => fin v h' tk hv (by rw [et]; exact st') kk
    · have et : strIterType (S l) = "str_iterator" := by unfold strIterType; rw [if_neg ha]
      rw [et] at st
      exact (Walks.strWide (prog := X.prog) (w := X.w) (I.ok.hd hc) it (S l) t).item i s _ _ hsz st fun v h' tk hv st' kk => fin v h' tk hv (by rw [et]; exact st') kk
  done := by
    intro X hP hw hK hc i pins s σ H E I hf st hg
    subst hP hw hK
    obtain ⟨f0, f1, f2, f3, f4, f5⟩ := hf it (by simp)
    have hg' : l.length <= i := by have : (sgs l).length <= i := hg; rwa [sgs_len] at this
    have hx : (S l).cps[i]? = none := by rw [Array.getElem?_eq_none_iff, S_size]; exact hg'
    by_cases ha : (S l).cps.all (· < 128) = true
    · have et : strIterType (S l) = "str_ascii_iterator" := by unfold strIterType; rw [if_pos ha]
      rw [et] at st
      exact wpAny_pyNext_ascii_end (I.ok.hd hc) st hx fun h' eb => ⟨rfl, I.turned (t' := s.toks) (fun b o hb e => eb b o hb e) f0 f1 f3 f4 f5⟩
    · have et : strIterType (S l) = "str_iterator" := by unfold strIterType; rw [if_neg ha]
      rw [et] at st
      exact wpAny_pyNext_wide_end (I.ok.hd hc) st hx fun h' eb => ⟨rfl, I.turned (t' := s.toks) (fun b o hb e => eb b o hb e) f0 f1 f3 f4 f5⟩
  self := fun _ _ s _ _ st h => by
    by_cases ha : (S l).cps.all (· < 128) = true
    · have et : strIterType (S l) = "str_ascii_iterator" := by unfold strIterType; rw [if_pos ha]
      rw [et] at st
      exact wpAny_pyIter_striter_ascii st h
    · have et : strIterType (S l) = "str_iterator" := by unfold strIterType; rw [if_neg ha]
      rw [et] at st
      exact wpAny_pyIter_striter_wide st h
section
variable {X : Cx} {tg : Expr}
noncomputable def iStr (tl : TE) : TI := fun σ H R => tl σ H fun x H1 => ∃ l, x = .str (S l) /\ R (Itx (sgs l)) H1
theorem pi_str {l : Expr} {tl : TE} (hl : PE X l tl) : PI X tg l (iStr tl) := by
  intro pins s σ H R I h
  refine thn (hl pins s σ H _ I h) fun v s1 ⟨x, H1, I1, r1, q1⟩ => ?_
  obtain ⟨l, rfl, q⟩ := q1
  obtain ⟨t, rfl⟩ := r1
  refine wpAny_pyIter_strU ?_
  refine ⟨s1.heap.objs.size, [s1.heap.objs.size], _, _, H1, rfl, I1.kept (t' := s1.toks) fun b o e => Heap.get?_push_of_some _ e, turn_str _ l t, ⟨_, Heap.get?_push_size _ rfl, rfl, rfl⟩, fun b hb => ?_, q⟩
  have e : b = s1.heap.objs.size := by simpa using hb
  subst e
  exact I1.fpOk (Nat.le_refl _) (I1.hok.fresh (Nat.le_refl _))
end
theorem for_fix {xs : List V} {g : TG} {tb : TS} {D : Ends} {σ : St} {H : Hp} (Pv : Nat -> St -> Hp -> Prop) (h0 : Pv 0 σ H)
    (hs : ∀ i x σ H, xs[i]? = some x -> Pv i σ H -> g x σ H fun σ2 H2 => tb { D with nx := Pv (i + 1), ct := Pv (i + 1), bk := D.nx } σ2 H2) (hd : ∀ σ H, Pv xs.length σ H -> D.nx σ H) :
    ∃ W : Nat -> Nat -> St -> Hp -> Prop, (∃ m, W 0 m σ H) /\ ∀ i m σ H, W i m σ H ->
      ((Itx xs).stop i H /\ D.nx σ H) \/ ((Itx xs).go i H /\ ∃ N : St -> Hp -> Prop, (∀ σ' H', N σ' H' -> ∃ m', m' < m /\ W (i + 1) m' σ' H') /\ ∀ x H', (Itx xs).yld i H x H' -> g x σ H' fun σ2 H2 => tb { D with nx := N, ct := N, bk := D.nx } σ2 H2) := by
  refine ⟨fun i m σ H => m = xs.length - i /\ i <= xs.length /\ Pv i σ H, ⟨xs.length, by simp, Nat.zero_le _, h0⟩, ?_⟩
  rintro i m σ H ⟨rfl, hi, p⟩
  by_cases hlt : i < xs.length
  · refine .inr ⟨hlt, Pv (i + 1), fun σ' H' p' => ⟨xs.length - (i + 1), by omega, rfl, hlt, p'⟩, fun x H' y => ?_⟩
    obtain ⟨e, y⟩ := y
    subst e
    exact hs i x σ _ y p
  · have e : i = xs.length := by omega
    subst e
    exact .inl ⟨Nat.le_refl _, hd σ H p⟩
theorem comp_by {J : It} {n : Nat} {xs : Nat -> V -> Prop} {σc : St} {g : TG} {tc : TT} {te : TE} {Q : VK} {H1 : Hp} (Pv : Nat -> List V -> Hp -> Prop) (hn : n < sizeLine) (hgo : ∀ i acc H, i < n -> Pv i acc H -> J.go i H) (hstop : ∀ acc H, Pv n acc H -> J.stop n H)
    (hy : ∀ i acc H x H', i < n -> Pv i acc H -> J.yld i H x H' -> H' = H /\ xs i x) (h0 : Pv 0 [] H1)
    (hs : ∀ (i : Nat) (x : V) (acc : List V) (H : Hp) (Nx : List V -> Hp -> Prop), i < n -> xs i x -> acc.length <= i -> Pv i acc H -> (∀ acc' H', acc'.length <= i + 1 -> Pv (i + 1) acc' H' -> Nx acc' H') ->
      g x σc H fun σ2 H2 => Wk σc σ2 /\ tc σ2 H2 fun b H3 => if b = true then te σ2 H3 fun v H4 => Nx (acc ++ [v]) H4 else Nx acc H3)
    (hd : ∀ acc H D, acc.length <= n -> Pv n acc H -> H D = none -> Q (.ref D) (upd H D (.lst acc))) : CompW J σc g tc te Q H1 := by
  refine ⟨fun i m acc H => m = n - i /\ i <= n /\ acc.length <= i /\ Pv i acc H, ⟨n, by simp, Nat.zero_le _, Nat.le_refl _, h0⟩, ?_⟩
  rintro i m acc H ⟨rfl, hi, hl, p⟩
  refine ⟨by omega, ?_⟩
  by_cases hlt : i < n
  · refine .inr ⟨hgo i acc H hlt p, fun x H' y => ?_⟩
    obtain ⟨rfl, y2⟩ := hy i acc H x H' hlt p y
    exact hs i x acc _ (fun acc' H' => ∃ m', m' < n - i /\ (m' = n - (i + 1) /\ i + 1 <= n /\ acc'.length <= i + 1 /\ Pv (i + 1) acc' H')) hlt y2 hl p fun acc' H' h1 h2 => ⟨n - (i + 1), by omega, rfl, hlt, h1, h2⟩
  · have e : i = n := by omega
    subst e
    exact .inl ⟨hstop acc H p, fun D hD => hd acc H D hl p hD⟩
theorem comp_fix {xs : List V} {σc : St} {g : TG} {tc : TT} {te : TE} {Q : VK} {H1 : Hp} (Pv : Nat -> List V -> Hp -> Prop) (hn : xs.length < sizeLine) (h0 : Pv 0 [] H1)
    (hs : ∀ (i : Nat) (x : V) (acc : List V) (H : Hp) (Nx : List V -> Hp -> Prop), i < xs.length -> xs[i]? = some x -> acc.length <= i -> Pv i acc H -> (∀ acc' H', acc'.length <= i + 1 -> Pv (i + 1) acc' H' -> Nx acc' H') ->
      g x σc H fun σ2 H2 => Wk σc σ2 /\ tc σ2 H2 fun b H3 => if b = true then te σ2 H3 fun v H4 => Nx (acc ++ [v]) H4 else Nx acc H3)
    (hd : ∀ acc H D, acc.length <= xs.length -> Pv xs.length acc H -> H D = none -> Q (.ref D) (upd H D (.lst acc))) : CompW (Itx xs) σc g tc te Q H1 :=
  comp_by (xs := fun i x => xs[i]? = some x) Pv hn (fun i _ _ h _ => h) (fun _ _ _ => Nat.le_refl _) (fun i _ H x H' _ _ y => y) h0 hs hd
theorem comp_rng {lo : Int} {n : Nat} {σc : St} {g : TG} {tc : TT} {te : TE} {Q : VK} {H1 : Hp} (Pv : Nat -> List V -> Hp -> Prop) (hn : n < sizeLine) (h0 : Pv 0 [] H1)
    (hs : ∀ (i : Nat) (acc : List V) (H : Hp) (Nx : List V -> Hp -> Prop), i < n -> acc.length <= i -> Pv i acc H -> (∀ acc' H', acc'.length <= i + 1 -> Pv (i + 1) acc' H' -> Nx acc' H') ->
      g (.int (lo + i)) σc H fun σ2 H2 => Wk σc σ2 /\ tc σ2 H2 fun b H3 => if b = true then te σ2 H3 fun v H4 => Nx (acc ++ [v]) H4 else Nx acc H3)
    (hd : ∀ acc H D, acc.length <= n -> Pv n acc H -> H D = none -> Q (.ref D) (upd H D (.lst acc))) : CompW (Itr lo n) σc g tc te Q H1 :=
  comp_by (xs := fun i x => x = .int (lo + i)) Pv hn (fun i _ _ h _ => h) (fun _ _ _ => Nat.le_refl _) (fun i _ H x H' _ _ y => y) h0 (fun i x acc H Nx h1 h2 => by subst h2; exact hs i acc H Nx h1) hd
noncomputable def tWhileN (c : TT) (tb : TS) : TS := fun D σ H => ∃ W : Nat -> St -> Hp -> Prop, (∃ m, W m σ H) /\ ∀ m σ H, W m σ H ->
  c σ H fun b H1 => if b = true then tb { D with nx := fun σ' H' => ∃ m', m' < m /\ W m' σ' H', ct := fun σ' H' => ∃ m', m' < m /\ W m' σ' H', bk := D.nx } σ H1 else D.nx σ H1
theorem ps_whileN {X : Cx} {c : Expr} {body : List Stmt} {tc : TT} {tb : TS} {pos : Pos} (hp : PassesOwn (model X.prog X.w) X.A X.env X.xe) (hc : PT X c tc) (hb : PSs X body tb) : PS X (.While c body [] pos) (tWhileN tc tb) := by
  intro pins s σ H D I h
  obtain ⟨W, ⟨m0, w0⟩, turn⟩ := h
  refine wpAny_While (codeAny_whileLoop (fun n s' => ∃ σ' H', Inv X pins σ' H' s' /\ W n σ' H') ?_ m0 ⟨σ, H, I, w0⟩)
  rintro n s1 ⟨σ1, H1, I1, w1⟩
  refine wpAny_passesOwn hp (thn (hc pins s1 σ1 H1 _ I1 (turn n σ1 H1 w1)) fun b s2 ⟨H2, I2, q2⟩ => ?_)
  cases b with
  | true =>
    rw [if_pos rfl] at q2 ⊢
    refine wpAny_passesOwn hp (thn (hb pins s2 σ1 H2 _ I2 q2) fun f s3 q3 => ?_)
    cases f with
    | next =>
      obtain ⟨σ3, H3, I3, m', hm, w3⟩ := q3
      exact ⟨m', hm, σ3, H3, I3, w3⟩
    | cont =>
      obtain ⟨σ3, H3, I3, m', hm, w3⟩ := q3
      exact ⟨m', hm, σ3, H3, I3, w3⟩
    | brk => exact q3
    | ret v => exact q3
  | false =>
    rw [if_neg Bool.false_ne_true] at q2 ⊢
    exact wpAny_execs_nil ⟨σ1, H2, I2, q2⟩
noncomputable def compOk (X : Cx) (scope : Scope) : Bool := (scope.names.all fun y => y.2 != .cell) && (scope.kind == .function) && (scope.names.all fun y => y.2 != .free || X.env.kindOf y.1 == some .cell || X.env.kindOf y.1 == some .free) && (scope.names.all fun y => y.2 != .local || scope.names.lookup y.1 == some .local)
theorem compOk_parts {X : Cx} {scope : Scope} (h : compOk X scope = true) : (∀ y ∈ scope.names, y.2 ≠ .cell) /\ scope.kind = .function /\ (∀ y ∈ scope.names, y.2 = .free -> X.env.kindOf y.1 = some .cell \/ X.env.kindOf y.1 = some .free) /\ (∀ x ∈ scope.names, x.2 = .local -> scope.names.lookup x.1 = some .local) := by
  unfold compOk at h
  simp only [Bool.and_eq_true] at h
  obtain ⟨⟨⟨h1, h2⟩, h3⟩, h4⟩ := h
  refine ⟨fun y hy e => ?_, by simpa using h2, fun y hy e => ?_, fun y hy e => ?_⟩
  · have := List.all_eq_true.mp h1 y hy
    rw [e] at this; simp at this
  · have := List.all_eq_true.mp h3 y hy
    rw [e] at this
    simpa using this
  · have := List.all_eq_true.mp h4 y hy
    rw [e] at this
    simpa using this
theorem pe_compB {X : Cx} {tg iter elt : Expr} {ifs : List Expr} {scope : Scope} {pos : Pos} {wi : TI} {g : TG} {tc : TT} {te : TE} (Nc : List Str) (ix : List (Option Nat)) (hi : PI X tg iter wi) (hix : IxOk X scope Nc ix)
    (hG : ∀ C s H fp, PG (cxComp X scope C Nc s H fp) tg g) (hT : ∀ C s H fp, PF (cxComp X scope C Nc s H fp) ifs tc) (hE : ∀ C s H fp, PE (cxComp X scope C Nc s H fp) elt te) (hok : compOk X scope = true := by rfl) (hcalm : X.calm = true := by rfl)
    (hs : ∀ x, foldedSetIterable iter X.env x = pure x := by intro _; rfl) : PE X (.ListComp elt [⟨tg, iter, ifs, 0⟩] scope pos) (tComp wi ix g tc te) :=
  let ⟨h1, h2, h3, h4⟩ := compOk_parts hok
  pe_comp Nc ix hi hcalm hix h1 h2 h3 h4 hG hT hE hs
section
variable {X : Cx}
noncomputable def rEqS : R2 := fun x y H Q => ∃ a b, x = .str (S a) /\ y = .str (S b) /\ Q (.bl (decide (a = b))) H
theorem op_eqS : OpR X (compareOp .Eq) rEqS := by
  intro pins s σ H x y v u Q I rx ry h
  obtain ⟨a, b, rfl, rfl, q⟩ := h
  exact op_eq pins s σ H _ _ v u Q I rx ry ⟨rfl, by rw [dec_S]; exact q⟩
theorem dec_I {i j : Int} : decide (V.int i = V.int j) = decide (i = j) := by
  by_cases h : i = j
  · subst h; simp
  · rw [decide_eq_false h, decide_eq_false]
    intro q
    exact h (V.int.inj q)
theorem dec_B {i j : Bool} : decide (V.bl i = V.bl j) = decide (i = j) := by
  by_cases h : i = j
  · subst h; simp
  · rw [decide_eq_false h, decide_eq_false]
    intro q
    exact h (V.bl.inj q)
theorem op_eqI : OpR X (compareOp .Eq) (rI0 fun i j => .bl (decide (i = j))) := by
  intro pins s σ H x y v u Q I rx ry h
  obtain ⟨a, b, rfl, rfl, q⟩ := h
  exact op_eq pins s σ H _ _ v u Q I rx ry ⟨rfl, by rw [dec_I]; exact q⟩
theorem op_neI : OpR X (compareOp .NotEq) (rI0 fun i j => .bl (!decide (i = j))) := by
  intro pins s σ H x y v u Q I rx ry h
  obtain ⟨a, b, rfl, rfl, q⟩ := h
  exact op_ne pins s σ H _ _ v u Q I rx ry ⟨rfl, by rw [dec_I]; exact q⟩
noncomputable def rB0 (g : Bool -> Bool -> V) : R2 := fun x y H Q => ∃ i j, x = .bl i /\ y = .bl j /\ Q (g i j) H
theorem op_neB : OpR X (compareOp .NotEq) (rB0 fun i j => .bl (!decide (i = j))) := by
  intro pins s σ H x y v u Q I rx ry h
  obtain ⟨a, b, rfl, rfl, q⟩ := h
  exact op_ne pins s σ H _ _ v u Q I rx ry ⟨rfl, by rw [dec_B]; exact q⟩
end
end L2
namespace L2
open PySem PySem.Spec PyProof.Rows
section
variable {X : Cx} {tg : Expr}
theorem ix_listK (K : PySem.W.Frag) (h : X.K = K) : IxR X (rIxL K) := by subst h; exact ix_list
theorem ix_tupK (K : PySem.W.Frag) (h : X.K = K) : IxR X (rIxT K) := by subst h; exact ix_tup
noncomputable def rLenL (K : PySem.W.Frag) : List V -> Hp -> VK -> Prop := fun xs H Q => ∃ p ys, xs = [.ref p] /\ (SqL K H p ys \/ SqT K H p ys) /\ Q (.int ys.length) H
theorem call_len_seqK (K : PySem.W.Frag) (h : X.K = K) : CallR X (.builtin "len") (rLenL K) := by subst h; exact call_len_seq
theorem mt_joinK (K : PySem.W.Frag) (h : X.K = K) : MtR X "str.join" (rJoinS K) := by subst h; exact mt_joinS
noncomputable def rListOf (K : PySem.W.Frag) : List V -> Hp -> VK -> Prop := fun xs H Q => ∃ p ys, xs = [.ref p] /\ (SqL K H p ys \/ SqT K H p ys) /\ ∀ l, H l = none -> Q (.ref l) (upd H l (.lst ys))
theorem call_list_ofK (K : PySem.W.Frag) (h : X.K = K) : CallR X (.type "list") (rListOf K) := by subst h; exact call_list_of
theorem sl_listK (K : PySem.W.Frag) (h : X.K = K) : SlR X (rSlL K) := by subst h; exact sl_list
theorem pi_listK (K : PySem.W.Frag) (h : X.K = K) {l : Expr} {tl : TE} (hl : PE X l tl) : PI X tg l (iList K tl) := by subst h; exact pi_list hl
theorem pi_tupK (K : PySem.W.Frag) (h : X.K = K) {l : Expr} {tl : TE} (hl : PE X l tl) : PI X tg l (iTup K tl) := by subst h; exact pi_tup hl
end
section
variable {X : Cx} {o e : Expr} {es : List Expr} {to : TE} {t : TA} {name : Str} {apos cpos : Pos} {T id : String} {r : V -> List V -> Hp -> VK -> Prop}
theorem pe_bm0K (K : PySem.W.Frag) (hK : X.K = K) (pa : PlainAttrs T) (slot : Slot T name id) (hty : typeOf (.builtin id) = pure (.type "method_descriptor")) (hm : MtR X id r) (ho : PE X o to)
    (hbase : attributeBase o name X.env (eval o X.env) = eval o X.env := by rfl) (hline : (apos.endLine == cpos.line) = true := by rfl) : PE X (.Call (.Attribute o name apos) [] [] cpos) (tBM0 K T r to) := by
  subst hK
  exact pe_bm0 pa slot hty hm ho hbase hline
theorem pe_bmK (K : PySem.W.Frag) (hK : X.K = K) (pa : PlainAttrs T) (slot : Slot T name id) (hty : typeOf (.builtin id) = pure (.type "method_descriptor")) (hm : MtR X id r) (ho : PE X o to) (ha : PA X (e :: es) t)
    (hbase : attributeBase o name X.env (eval o X.env) = eval o X.env := by rfl)
    (hfew : ((backTo cpos (starEach (e :: es) X.env)).all (fun x => !x.1) && (backToKw cpos (keywordEach [] X.env)).all (fun x => x.1.isSome)
      && decide ((e :: es).length + ([] : List Keyword).length + (if ([] : List Keyword).isEmpty then 0 else 1) < 30)) = true := by rfl)
    (hline : (apos.endLine == cpos.line) = true := by rfl) (hs : starEach (e :: es) X.env = (false, eval e X.env) :: starEach es X.env := by rfl) (hplain : (backTo cpos (starEach es X.env)).any (·.1) = false := by rfl) :
    PE X (.Call (.Attribute o name apos) (e :: es) [] cpos) (tBM K T r to t) := by
  subst hK
  exact pe_bm pa slot hty hm ho ha hbase hfew hline hs hplain
end
end L2
namespace L2
open PySem PySem.Spec PyProof.Rows
mutual
inductive RdD (K : PySem.W.Frag) (H : Hp) : V -> PyData -> Prop
  | non : RdD K H .non .none
  | bl (b : Bool) : RdD K H (.bl b) (.bool b)
  | int (i : Int) : RdD K H (.int i) (.int i)
  | str (x : Str) : RdD K H (.str x) (.str x)
  | lst {a : Addr} {xs : List V} {ds : List PyData} (h : SqL K H a xs) (r : RdDs K H xs ds) : RdD K H (.ref a) (.list ds)
  | tup {a : Addr} {xs : List V} {ds : List PyData} (h : SqT K H a xs) (r : RdDs K H xs ds) : RdD K H (.ref a) (.tuple ds)
inductive RdDs (K : PySem.W.Frag) (H : Hp) : List V -> List PyData -> Prop
  | nil : RdDs K H [] []
  | cons {x : V} {xs : List V} {d : PyData} {ds : List PyData} (h : RdD K H x d) (r : RdDs K H xs ds) : RdDs K H (x :: xs) (d :: ds)
end
section
variable {X : Cx} {pins : List (Addr × Obj)} {σ : St} {H : Hp} {s : Shared}
mutual
theorem RdD.reads (I : Inv X pins σ H s) : ∀ {x : V} {d : PyData} {u : Value}, RdD X.K H x d -> RelV x u -> ∃ as, Reads s.heap u d as
  | _, _, u, .non, r => by cases (show u = Value.none from r); exact ⟨_, .none⟩
  | _, _, u, .bl b, r => by cases (show u = Value.bool b from r); exact ⟨_, .bool b⟩
  | _, _, u, .int i, r => by obtain ⟨t, rfl⟩ := r; exact ⟨_, .int i t⟩
  | _, _, u, .str x, r => by obtain ⟨t, rfl⟩ := r; exact ⟨_, .str x t⟩
  | _, _, u, .lst (a := a) h q, r => by
    cases (show u = Value.ref a from r)
    obtain ⟨its, rv, pl, _⟩ := I.list h
    obtain ⟨as, ra⟩ := RdDs.reads I q rv
    obtain ⟨o, ho, hc, n, hd⟩ := pl.isList
    exact ⟨_, .list ho hc hd (by simpa using ra)⟩
  | _, _, u, .tup (a := a) h q, r => by
    cases (show u = Value.ref a from r)
    obtain ⟨its, rv, pl, _⟩ := I.tuple h
    obtain ⟨as, ra⟩ := RdDs.reads I q rv
    obtain ⟨o, ho, hc, n, hd⟩ := pl
    exact ⟨_, .tuple ho hc hd (by simpa using ra)⟩
theorem RdDs.reads (I : Inv X pins σ H s) : ∀ {xs : List V} {ds : List PyData} {us : List Value}, RdDs X.K H xs ds -> Vals xs us -> ∃ as, ReadsAll s.heap us ds as
  | _, _, us, .nil, r => by cases r; exact ⟨_, .nil⟩
  | _, _, us, .cons h q, r => by
    cases r with
    | cons r1 r2 =>
      obtain ⟨as, ra⟩ := RdD.reads I h r1
      obtain ⟨bs, rb⟩ := RdDs.reads I q r2
      exact ⟨_, .cons ra rb⟩
end
mutual
theorem RdD.noDict {K : PySem.W.Frag} : ∀ {x : V} {d : PyData}, RdD K H x d -> d.hasDict = false
  | _, _, .non => rfl
  | _, _, .bl b => rfl
  | _, _, .int i => rfl
  | _, _, .str x => rfl
  | _, _, .lst h q => by show PyData.hasDictAll _ = false; exact RdDs.noDict q
  | _, _, .tup h q => by show PyData.hasDictAll _ = false; exact RdDs.noDict q
theorem RdDs.noDict {K : PySem.W.Frag} : ∀ {xs : List V} {ds : List PyData}, RdDs K H xs ds -> PyData.hasDictAll ds = false
  | _, _, .nil => rfl
  | _, _, .cons h q => by
    show (PyData.hasDict _ || PyData.hasDictAll _) = false
    rw [RdD.noDict h, RdDs.noDict q]; rfl
end
end
section
variable {X : Cx}
noncomputable def rNeD (K : PySem.W.Frag) : R2 := fun x y H Q => ∃ dx dy, RdD K H x dx /\ RdD K H y dy /\ (dx.canLay0 = true /\ dy.canLay0 = true) /\ dx.depth <= 60 /\ Q (.bl (!PyData.eqv dx dy)) H
theorem op_neD {k : Nat} (K : PySem.W.Frag) (h : X.K = K) (hr : Room k X.A) : OpR X (compareOp .NotEq) (rNeD K) := by
  subst h
  intro pins s σ H x y v u Q I rx ry h
  obtain ⟨dx, dy, h1, h2, ⟨h3, h4⟩, h5, q⟩ := h
  obtain ⟨as, ra⟩ := h1.reads I rx
  obtain ⟨bs, rb⟩ := h2.reads I ry
  have hu := hr.units
  exact SeqAt.compareNe_reads ra rb h3 h4 (by omega) ⟨.bl _, H, I, rfl, q⟩
theorem pg_tupK (K : PySem.W.Frag) (h : X.K = K) {es : List Expr} {k : Nat} {t : TGs} {n : Nat} {pos : Pos} (hc : X.calm = true) (hs : PGs X es t)
    (hn : (assignEach es X.env).length = n := by rfl) (hst : (assignEach es X.env).findIdx? (·.1) = none := by rfl) : PG X (.Tuple es k pos) (gTup K n t) := by
  subst h
  exact pg_tup hc hs hn hst
end
end L2
namespace L2
open PySem PySem.Spec PyProof.Rows
noncomputable def lesser (a b : List Nat) : List Nat := if b < a then b else a
noncomputable def leastOf : List Nat -> List (List Nat) -> List Nat
  | a, [] => a
  | a, b :: r => leastOf (lesser a b) r
section
variable {X : Cx}
end
end L2
namespace L2
open PySem PySem.Spec PyProof.Rows
section
variable {X : Cx}
theorem op_inK (K : PySem.W.Frag) (h : X.K = K) : OpR X (compareOp .In) (rIn K false) := by subst h; exact op_in_seq
structure SmD (k n : Nat) (d : PyData) : Prop where
  lv : d.leavesShort 13 = true
  sh : d.showable = true
  ly : d.canLay0 = true
  dp : d.depth <= k
  wt : d.weight <= n
structure SmDs (k n : Nat) (ds : List PyData) : Prop where
  lv : PyData.leavesShortAll 13 ds = true
  sh : PyData.showableAll ds = true
  ly : PyData.canLayAll0 ds = true
  dp : PyData.depthAll ds <= k
  wt : PyData.weightAll ds <= n
theorem SmD.int {k n : Nat} {i : Int} (h : i.natAbs < 10 ^ 12) (hn : 40 <= n) : SmD k n (.int i) := by
  have hl : i.natAbs.log2 < 40 := by
    by_cases z : i.natAbs = 0
    · rw [z]; decide
    · rw [Nat.log2_lt z]
      exact Nat.lt_trans h (by decide)
  refine ⟨?_, ?_, rfl, Nat.zero_le _, ?_⟩
  · show decide ((PyData.shown (.int i)).length <= 13) = true
    exact decide_eq_true (PyData.shown_int_le h)
  · show decide (i.natAbs.log2 < 1920) = true
    exact decide_eq_true (by omega)
  · show (if i == 0 then 0 else i.natAbs.log2 + 1) <= n
    split <;> omega
theorem SmDs.nil {k n : Nat} : SmDs k n [] := ⟨rfl, rfl, rfl, Nat.zero_le _, Nat.zero_le _⟩
theorem SmDs.cons {k a b n : Nat} {x : PyData} {xs : List PyData} (h : SmD k a x) (t : SmDs k b xs) (hn : a + 1 + b <= n) : SmDs k n (x :: xs) := by
  refine ⟨?_, ?_, ?_, ?_, ?_⟩
  · show (PyData.leavesShort 13 x && PyData.leavesShortAll 13 xs) = true; rw [h.lv, t.lv]; rfl
  · show (PyData.showable x && PyData.showableAll xs) = true; rw [h.sh, t.sh]; rfl
  · show (PyData.canLay0 x && PyData.canLayAll0 xs) = true; rw [h.ly, t.ly]; rfl
  · show max (PyData.depth x) (PyData.depthAll xs) <= k; exact Nat.max_le.mpr ⟨h.dp, t.dp⟩
  · show PyData.weight x + 1 + PyData.weightAll xs <= n
    have := h.wt; have := t.wt; omega
theorem SmDs.all {k a : Nat} : ∀ {xs : List PyData} {n : Nat}, (∀ x ∈ xs, SmD k a x) -> (a + 1) * xs.length <= n -> SmDs k n xs
  | [], _, _, _ => .nil
  | x :: xs, n, h, hn => .cons (b := (a + 1) * xs.length) (h x List.mem_cons_self) (SmDs.all (fun y hy => h y (List.mem_cons_of_mem _ hy)) (Nat.le_refl _)) (by rw [List.length_cons, Nat.mul_succ] at hn; omega)
theorem SmD.lst {k n : Nat} {ds : List PyData} (h : SmDs k n ds) : SmD (k + 1) n (.list ds) := ⟨h.lv, h.sh, h.ly, Nat.succ_le_succ h.dp, h.wt⟩
theorem SmD.tup {k n : Nat} {ds : List PyData} (h : SmDs k n ds) : SmD (k + 1) n (.tuple ds) := ⟨h.lv, h.sh, h.ly, Nat.succ_le_succ h.dp, h.wt⟩
end
end L2
namespace L2
open PySem PySem.Spec PyProof.Rows
end L2
namespace L2
open PySem PySem.Spec PyProof.Rows
section
variable {X : Cx}
theorem op_notB : OpR X (compareOp .IsNot) (fun x y H Q => ∃ c d, x = .bl c /\ y = .bl d /\ Q (.bl (c != d)) H) := by
  intro pins s σ H x y v u Q I rx ry h
  obtain ⟨c, d, rfl, rfl, q⟩ := h
  cases rx
  cases ry
  exact isnot_bool ⟨.bl _, H, I, rfl, q⟩
end
end L2
namespace L2
open PySem PySem.Spec PyProof.Rows
section
variable {X : Cx} {pins : List (Addr × Obj)} {σ : St} {H : Hp} {s : Shared} {h' : Heap}
theorem Inv.turnLaid {t' : Nat} {ch : List Addr} {T : Addr} {ob : HO} (I : Inv X pins σ H s) (k : ∀ b o, b ∉ ch -> s.heap.get? b = some o -> h'.get? b = some o) (hf : ∀ b ∈ ch, FpOk X pins H b)
    (hT : s.heap.objs.size <= T) (new : ObjOk X.prog X.w (upd H T ob) h' T ob) : Inv X pins σ (upd H T ob) { s with heap := h', toks := t' } := by
  have hn := I.hok.fresh hT
  have nit : ∀ b u, H b = some u -> b ∉ ch := fun b u e z => by rw [(hf b z).1] at e; cases e
  have neT : ∀ b o, s.heap.get? b = some o -> b ≠ T := fun b o e z => absurd (Nat.lt_of_lt_of_le (Heap.lt_size e) hT) (by rw [z]; exact Nat.lt_irrefl _)
  refine I.step (g' := s.gens) (d' := s.drawn) (ch := ch) (fun b hb => ?_) (fun b o _ _ hc e _ => k b o hc e) (fun b o _ _ hc e _ => ⟨o.slots, k b o hc e⟩) (fun b o _ e n => by rw [upd_ne (neT b o e)]; exact n)
    (fun b o hc e => ⟨o, k b o hc e⟩) (fun b xs e => by rw [upd_ne (ne_of_none e hn)]; exact e) (fun b o u e => by rw [upd_ne (ne_of_none e hn)]; exact e) (fun b ps e => ⟨#[], by rw [upd_ne (ne_of_none e hn), e]; simp⟩) (fun m hm => ?_) (fun b u e => ?_) I.bare
  · obtain ⟨_, h2, _, h4, h5, h6⟩ := hf b hb
    exact ⟨h4, h2, h5, h6⟩
  · obtain ⟨o, es, ep, ho, r⟩ := hm
    exact ⟨o, es, ep, k _ o (fun z => (hf _ z).2.1 rfl) ho, r⟩
  · by_cases hb : b = T
    · subst hb; rw [upd_same] at e; cases e; exact new
    · rw [upd_ne hb] at e
      refine (I.hok b u e).stay (fun c v hc q => k c v ?_ q) (fun c q => by rw [upd_ne (ne_of_none q hn)]; exact q) fun c xs q => by rw [upd_ne (ne_of_none q hn)]; exact q
      rcases hc with z | z
      · rw [z]; exact nit b u e
      · exact nit c _ z
theorem Inv.turnedL {t' : Nat} {ch : List Addr} (I : Inv X pins σ H s) (k : ∀ b o, b ∉ ch -> s.heap.get? b = some o -> h'.get? b = some o) (hf : ∀ b ∈ ch, FpOk X pins H b) : Inv X pins σ H { s with heap := h', toks := t' } := by
  have nit : ∀ b u, H b = some u -> b ∉ ch := fun b u e z => by rw [(hf b z).1] at e; cases e
  refine I.step (g' := s.gens) (d' := s.drawn) (ch := ch) (fun b hb => ?_) (fun b o _ _ hc e _ => k b o hc e) (fun b o _ _ hc e _ => ⟨o.slots, k b o hc e⟩) (fun b o _ e n => n)
    (fun b o hc e => ⟨o, k b o hc e⟩) (fun b xs e => e) (fun b o u e => e) (fun b ps e => ⟨#[], by rw [e]; simp⟩) (fun m hm => ?_) (fun b u e => ?_) I.bare
  · obtain ⟨_, h2, _, h4, h5, h6⟩ := hf b hb
    exact ⟨h4, h2, h5, h6⟩
  · obtain ⟨o, es, ep, ho, r⟩ := hm
    exact ⟨o, es, ep, k _ o (fun z => (hf _ z).2.1 rfl) ho, r⟩
  · refine (I.hok b u e).stay (fun c v hc q => k c v ?_ q) (fun c q => q) fun c xs q => q
    rcases hc with z | z
    · rw [z]; exact nit b u e
    · exact nit c _ z
end
noncomputable def ItE (l : List Nat) : It := ⟨fun i _ => i < l.length, fun i H x H' => ∃ T c, l[i]? = some c /\ x = .ref T /\ H T = none /\ H' = upd H T (.tup [.int i, .str (S [c])]), fun i _ => l.length <= i⟩
theorem draws_str {prog : Program} {w : World} {A : Around} (hh : A.handled = none) (it : Addr) (x : Str) (t : Tok) :
    Draws prog w A it [it] x.cps.size (fun i v => ∃ c u, x.cps[i]? = some c /\ v = .str ⟨#[c]⟩ u) (fun i h => h.IsStrIter it (strIterType x) x t i) := by
  by_cases ha : x.cps.all (· < 128) = true
  · have et : strIterType x = "str_ascii_iterator" := by unfold strIterType; rw [if_pos ha]
    rw [et]; exact Draws.strAscii hh it x t
  · have et : strIterType x = "str_iterator" := by unfold strIterType; rw [if_neg ha]
    rw [et]; exact Draws.strWide hh it x t
theorem turn_enumS {P : Program} {w : World} {K : PySem.W.Frag} {elts : List Expr} {k : Nat} {pos : Pos} (e it : Addr) (hei : e ≠ it) (l : List Nat) (t : Tok) :
    Turn P w K (.Tuple elts k pos) (ItE l) [e, it] e (fun i h => i <= l.length /\ (∃ old, IsEnum h e it i old) /\ h.IsStrIter it (strIterType (S l)) (S l) t i) where
  mem := by simp
  obj := fun i h st b hb => by
    obtain ⟨_, ⟨old, he⟩, o, ho, hc, hd⟩ := st
    rcases List.mem_cons.mp hb with z | z
    · rw [z]; exact ⟨_, he, fun v z => by cases z⟩
    · rw [List.mem_singleton.mp z]; exact ⟨o, ho, fun v z => by rw [hd] at z; cases z⟩
  keep := fun i h h' st kp => by
    obtain ⟨h1, ⟨old, he⟩, o, ho, r⟩ := st
    exact ⟨h1, ⟨old, kp e (by simp) _ he⟩, o, kp it (by simp) o ho, r⟩
  item := by
    intro X hP hw hK hc i pins s σ H E I hf st hg
    subst hP hw hK
    obtain ⟨_, st1, st2⟩ := st
    have D := draws_str (prog := X.prog) (w := X.w) (A := X.A.in1) (I.ok.hd hc) it (S l) t
    have W := WalksT.enumerateD D e hei (by simpa using hei) (by simp)
    have hi : i < (S l).cps.size := by rw [S_size]; exact hg
    refine W.item i s _ _ hi ⟨st1, st2⟩ fun T vals h' tk hPt hT hTup hMid hk => ⟨_, rfl, ?_⟩
    refine W.go elts k pos i T { s with heap := h', toks := tk } _ _ hMid fun h2 hst2 hk2 => ?_
    obtain ⟨tt, x, ⟨c, u, hcx, rfl⟩, rfl⟩ := hPt
    have hTw : T ∉ [e, it] := W.apart i T h' hMid
    have hTup2 : h2.IsTuple T #[.int i tt, .str ⟨#[c]⟩ u] := by
      obtain ⟨o, ho, r⟩ := hTup
      exact ⟨o, hk2 T o hTw ho, r⟩
    have hl : l[i]? = some c := by simpa [S] using hcx
    refine ⟨.ref T, upd H T (.tup [.int i, .str (S [c])]), ?_, rfl, ⟨T, c, hl, rfl, I.hok.fresh hT, rfl⟩, ⟨hg, hst2.1, hst2.2⟩, fun b hb => ?_⟩
    · refine I.turnLaid (t' := tk) (h' := h2) (fun b o hb y => hk2 b o hb (hk b o hb y)) hf hT ?_
      exact ⟨by show 2 <= sizeLine; decide, [.int i tt, .str ⟨#[c]⟩ u], .cons ⟨tt, rfl⟩ (.cons ⟨u, rfl⟩ .nil), hTup2⟩
    · rw [upd_ne (fun z : b = T => hTw (z ▸ hb))]; exact (hf b hb).1
  done := by
    intro X hP hw hK hc i pins s σ H E I hf st hg
    subst hP hw hK
    obtain ⟨h1, st1, st2⟩ := st
    have e1 : i = l.length := Nat.le_antisymm h1 hg
    have D := draws_str (prog := X.prog) (w := X.w) (A := X.A.in1) (I.ok.hd hc) it (S l) t
    have W := WalksT.enumerateD D e hei (by simpa using hei) (by simp)
    refine W.done s _ _ ?_ fun h' tk hk => ⟨rfl, I.turnedL (t' := tk) hk hf⟩
    rw [S_size, <- e1]
    exact ⟨st1, st2⟩
  self := fun _ _ s _ _ st h => by
    obtain ⟨_, ⟨old, he⟩, _⟩ := st
    exact wpAny_pyIter_enum he h
noncomputable def iEnumS (ta : TA) : TI := fun σ H R => ta σ H fun vs H1 => ∃ l, vs = [.str (S l)] /\ R (ItE l) H1
theorem pi_enumS {X : Cx} {elts : List Expr} {k : Nat} {pos' : Pos} {a : Expr} {ta : TA} {p pos : Pos} (hg : Gl X "enumerate") (hm : X.mg "enumerate" = none) (ha : PA X [a] ta) (hs : starEach [a] X.env = [(false, eval a X.env)] := by rfl) : PI X (.Tuple elts k pos') (.Call (.Name "enumerate" p) [a] [] pos) (iEnumS ta) := by
  intro pins s σ H R I h
  refine Call_ (ld_blt I hg hm boot_enumerate (PyProof.Rows.callWith_type1 (thn (ha pos pins s σ H _ I h) fun us s1 ⟨vs, H1, I1, r1, q1⟩ => ?_) hs rfl))
  obtain ⟨l, rfl, q⟩ := q1
  obtain ⟨u, rfl, t, rfl⟩ := vals1 r1
  refine call_enumerate_str fun h' he hit hsz hk => ?_
  refine wpAny_pyIter_enum he ?_
  refine ⟨s1.heap.objs.size + 1, [s1.heap.objs.size + 1, s1.heap.objs.size], _, _, H1, rfl, I1.kept (t' := s1.toks) hk, turn_enumS _ _ (Nat.succ_ne_self _) l t, ⟨Nat.zero_le _, ⟨_, he⟩, hit⟩, fun b hb => ?_, q⟩
  have hb2 : s1.heap.objs.size <= b := by
    rcases List.mem_cons.mp hb with z | z
    · rw [z]; exact Nat.le_succ _
    · rw [List.mem_singleton.mp z]; exact Nat.le_refl _
  exact I1.fpOk hb2 (I1.hok.fresh hb2)
theorem for_enum {l : List Nat} {g : TG} {tb : TS} {D : Ends} {σ : St} {H : Hp} (Pv : Nat -> St -> Hp -> Prop) (h0 : Pv 0 σ H)
    (hs : ∀ i c σ H T, l[i]? = some c -> Pv i σ H -> H T = none -> g (.ref T) σ (upd H T (.tup [.int i, .str (S [c])])) fun σ2 H2 => tb { D with nx := Pv (i + 1), ct := Pv (i + 1), bk := D.nx } σ2 H2) (hd : ∀ σ H, Pv l.length σ H -> D.nx σ H) :
    ∃ W : Nat -> Nat -> St -> Hp -> Prop, (∃ m, W 0 m σ H) /\ ∀ i m σ H, W i m σ H ->
      ((ItE l).stop i H /\ D.nx σ H) \/ ((ItE l).go i H /\ ∃ N : St -> Hp -> Prop, (∀ σ' H', N σ' H' -> ∃ m', m' < m /\ W (i + 1) m' σ' H') /\ ∀ x H', (ItE l).yld i H x H' -> g x σ H' fun σ2 H2 => tb { D with nx := N, ct := N, bk := D.nx } σ2 H2) := by
  refine ⟨fun i m σ H => m = l.length - i /\ i <= l.length /\ Pv i σ H, ⟨l.length, by simp, Nat.zero_le _, h0⟩, ?_⟩
  rintro i m σ H ⟨rfl, hi, p⟩
  by_cases hlt : i < l.length
  · refine .inr ⟨hlt, Pv (i + 1), fun σ' H' p' => ⟨l.length - (i + 1), by omega, rfl, hlt, p'⟩, fun x H' y => ?_⟩
    obtain ⟨T, c, hc, rfl, hn, rfl⟩ := y
    exact hs i c σ _ T hc p hn
  · have e : i = l.length := by omega
    subst e
    exact .inl ⟨Nat.le_refl _, hd σ H p⟩
section
variable {X : Cx}
theorem strs_of {ls : List (List Nat)} : ∀ {its : List Value}, Vals (ls.map fun l => V.str (S l)) its -> StrsAre its (ls.map S) := by
  induction ls with
  | nil => intro its r; cases r; exact .nil
  | cons l ls ih =>
    intro its r
    cases r with
    | cons r1 r2 =>
      obtain ⟨t, rfl⟩ := r1
      exact .cons _ t (ih r2)
theorem of_strs : ∀ {its : List Value} {ss : List Str}, StrsAre its ss -> Vals ((ss.map fun x => x.cps.toList).map fun l => V.str (S l)) its
  | _, _, .nil => .nil
  | _, _, .cons x t h => .cons ⟨t, by rw [<- S_of]⟩ (of_strs h)
theorem rising_pw : ∀ (p : Str) (r : List Str), risingS p r = true -> (p :: r).Pairwise fun a b => ¬ b.cps.toList < a.cps.toList
  | p, [], _ => List.pairwise_singleton _ _
  | p, x :: r, h => by
    have h' : (!ltCps x.cps.toList p.cps.toList && risingS x r) = true := h
    rw [Bool.and_eq_true, ltCps_eq] at h'
    have h1 : ¬ x.cps.toList < p.cps.toList := by simpa using h'.1
    have ih := rising_pw x r h'.2
    refine List.pairwise_cons.mpr ⟨fun y hy => ?_, ih⟩
    rcases List.mem_cons.mp hy with z | z
    · rw [z]; exact h1
    · exact List.le_trans (show p.cps.toList <= x.cps.toList from h1) (show x.cps.toList <= y.cps.toList from List.rel_of_pairwise_cons ih z)
theorem sorted_pw {ss : List Str} (h : sortedS ss = true) : (ss.map fun x => x.cps.toList).Pairwise fun a b => ¬ b < a := by
  rw [List.pairwise_map]
  cases ss with
  | nil => exact List.Pairwise.nil
  | cons x r => exact rising_pw x r h
noncomputable def rSortL (K : PySem.W.Frag) : List V -> Hp -> VK -> Prop := fun xs H Q => ∃ (p : Addr) (ls : List (List Nat)), xs = [.ref p] /\ SqL K H p (ls.map fun l => V.str (S l)) /\ ls.length < 64 /\ ∀ (q : Addr) (ls' : List (List Nat)), H q = none -> ls'.Perm ls -> (ls'.Pairwise fun a b => ¬ b < a) -> Q (.ref q) (upd H q (.lst (ls'.map fun l => V.str (S l))))
theorem call_sortedK (K : PySem.W.Frag) (h : X.K = K) : CallR X (.builtin "sorted") (rSortL K) := by
  subst h
  intro pins s σ H xs us Q I r h
  obtain ⟨p, ls, rfl, hq, hn, q⟩ := h
  obtain ⟨u, rfl, ru⟩ := vals1 r
  cases ru
  obtain ⟨its, rv, pl, hz⟩ := I.list hq
  have hlen : its.length = ls.length := by rw [<- rv.length, List.length_map]
  refine sorted_strs (l := p) (vs := its) (ss := ls.map S) pl.isList (strs_of rv) (by omega) fun out ss' h1 h2 h3 => ?_
  obtain ⟨e, he⟩ := sortedAll_at s.heap its out
  have hperm : (ss'.map fun x => x.cps.toList).Perm ls := by
    have := h2.map fun x : Str => x.cps.toList
    rw [List.map_map] at this
    have e2 : ls.map ((fun x : Str => x.cps.toList) ∘ S) = ls := by
      have : ∀ l ∈ ls, ((fun x : Str => x.cps.toList) ∘ S) l = l := fun l _ => S_list l
      calc ls.map _ = ls.map id := List.map_congr_left this
        _ = ls := List.map_id ls
    rwa [e2] at this
  have hl2 := hperm.length_eq
  have h64 : (64 : Nat) < sizeLine := by decide
  have hz2 : ((ss'.map fun x => x.cps.toList).map fun l => V.str (S l)).length <= sizeLine := by rw [List.length_map, hl2]; omega
  refine ⟨.ref (s.heap.objs.size + 1), _, I.laid (t' := s.toks) (a := s.heap.objs.size + 1) (o := .lst ((ss'.map fun x => x.cps.toList).map fun l => V.str (S l))) (fun b o e => sortedAll_old e) (Nat.le_succ _) ⟨hz2, out.toList, e, of_strs h1, by simpa [seqObj] using he⟩, rfl, q _ _ (I.hok.fresh (Nat.le_succ _)) hperm (sorted_pw h3)⟩
end
end L2
namespace L2
open PySem PySem.Spec PyProof.Rows
section
variable {X : Cx}
theorem ones_of {ls : List (List Nat)} {l : List Nat} (h : ls.Perm (l.map fun c => [c])) : ∃ l' : List Nat, ls = l'.map (fun c => [c]) /\ l'.Perm l := by
  refine ⟨ls.flatten, ?_, ?_⟩
  · have hs : ∀ x ∈ ls, ∃ c, x = [c] := fun x hx => by
      obtain ⟨c, _, e⟩ := List.mem_map.mp (h.mem_iff.mp hx)
      exact ⟨c, e.symm⟩
    clear h
    induction ls with
    | nil => rfl
    | cons x ls ih =>
      obtain ⟨c, rfl⟩ := hs x List.mem_cons_self
      rw [List.flatten_cons, List.map_append, <- ih fun y hy => hs y (List.mem_cons_of_mem _ hy)]
      rfl
  · have := h.flatten
    have e : (l.map fun c => [c]).flatten = l := by
      clear h this
      induction l with
      | nil => rfl
      | cons c l ih => rw [List.map_cons, List.flatten_cons, ih]; rfl
    rwa [e] at this
theorem ones_pw {l : List Nat} (h : (l.map fun c => [c]).Pairwise fun a b => ¬ b < a) : l.Pairwise fun a b => a <= b := by
  rw [List.pairwise_map] at h
  refine h.imp fun {a b} z => ?_
  by_cases y : a <= b
  · exact y
  · exact absurd (List.cons_lt_cons_iff.mpr (.inl (by omega))) z
end
end L2
namespace L2
open PySem PySem.Spec PyProof.Rows
section
variable {X : Cx}
end
end L2
namespace L2
open PySem PySem.Spec PyProof.Rows
section
variable {prog : Program} {w : World} {A : Around} {E : Value -> Shared -> Prop} {s : Shared}
theorem nextT_item {it tp : Addr} {j : Nat} {xs : Array Value} {y : Value} {Q : Value -> Shared -> Prop} (hi : s.heap.IsTupleIter it tp j) (ht : s.heap.IsTuple tp xs) (hy : xs[j]? = some y)
    (q : ∀ h2, h2.IsTupleIter it tp (j + 1) -> Heap.SameBut it s.heap h2 -> Q y { s with heap := h2 }) : wpAny (model prog w) A (Builtin.SmallTypes.nextOf (.ref it)) Q E s := by
  obtain ⟨oi, eo, ec, ed⟩ := id hi
  obtain ⟨ot, et, _, nt, dt⟩ := ht
  unfold Builtin.SmallTypes.nextOf
  refine wpAny_bind (wpAny_callSpecial?_slot (name := Str.ofString "__next__") hi.typeIs F.slot_tuple_iterator_next (wpAny_call_entry F.slot_tuple_iterator_next hi.typeIs F.entry_tuple_iterator_next ?_ (F.args_tuple_iterator_next_1 _)))
  refine wpAny_bind (m := field (.ref it) 0) (wpAny_field eo ed (x := .ref tp) rfl ?_)
  show wpAny (model prog w) _ (if (Value.ref tp == Value.none) = true then _ else _) _ E s
  rw [if_neg (show ¬ (Value.ref tp == Value.none) = true from Bool.false_ne_true)]
  refine wpAny_bind (m := field (.ref it) 1) (wpAny_field eo ed (x := .int j 0) rfl ?_)
  refine wpAny_bind (m := seqItems? (.ref tp)) (wpAny_seqItems et dt ?_)
  simp only [Int.toNat_natCast, hy]
  refine wpAny_bind (wpAny_setField eo ed (by simp) (wpAny_pure ⟨y, rfl, wpAny_pure (q _ ⟨_, Heap.get?_update_self _ eo (Obj.isFreed_of_fields (Obj.data_mapFields ed _)), (Obj.cls_mapFields ..).trans ec, by rw [Obj.data_mapFields ed]; simp [rawInt]⟩ (Heap.SameBut.update ..))⟩))
theorem nextT_end {it tp : Addr} {j : Nat} {xs : Array Value} {Q : Value -> Shared -> Prop} (hh : A.handled = none) (hi : s.heap.IsTupleIter it tp j) (ht : s.heap.IsTuple tp xs) (hy : xs[j]? = none)
    (q : ∀ h2 e, Heap.ExtBut it s.heap h2 -> (∃ o, h2.get? e = some o /\ o.cls = .type "StopIteration") -> E (.ref e) { s with heap := h2 }) : wpAny (model prog w) A (Builtin.SmallTypes.nextOf (.ref it)) Q E s := by
  obtain ⟨oi, eo, ec, ed⟩ := id hi
  obtain ⟨ot, et, _, nt, dt⟩ := ht
  unfold Builtin.SmallTypes.nextOf
  refine wpAny_bind (wpAny_callSpecial?_slot (name := Str.ofString "__next__") hi.typeIs F.slot_tuple_iterator_next (wpAny_call_entry F.slot_tuple_iterator_next hi.typeIs F.entry_tuple_iterator_next ?_ (F.args_tuple_iterator_next_1 _)))
  refine wpAny_bind (m := field (.ref it) 0) (wpAny_field eo ed (x := .ref tp) rfl ?_)
  show wpAny (model prog w) _ (if (Value.ref tp == Value.none) = true then _ else _) _ E s
  rw [if_neg (show ¬ (Value.ref tp == Value.none) = true from Bool.false_ne_true)]
  refine wpAny_bind (m := field (.ref it) 1) (wpAny_field eo ed (x := .int j 0) rfl ?_)
  refine wpAny_bind (m := seqItems? (.ref tp)) (wpAny_seqItems et dt ?_)
  simp only [Int.toNat_natCast, hy]
  refine wpAny_bind (wpAny_rule (wpAny_bind (wpAny_setField eo ed (by simp) ?_)))
  refine wpAny_bind (m := newExc (.type "StopIteration") []) ?_
  simp only [newExc, newTuple]
  refine wpAny_bind (wpAny_newObj_type (wpAny_bind (m := firstArgMember _ _) (wpAny_of_eq (a := Value.none) (by first | rfl | (simp only [firstArgMember]; rfl)) (wpAny_newObj_type ?_ (by size_fits)))) (by size_fits))
  simp only [raiseNew]
  refine wpAny_bind (wpAny_handled ?_); first | rw [show A.in1.handled = none from hh] | rw [hh]
  exact wpAny_bind (wpAny_pure (wpAny_throw (q _ _ (((Heap.SameBut.update ..).extBut.push _).push _) ⟨_, Heap.get?_push_size _ rfl, rfl⟩)))
theorem draws_tuple (hh : A.handled = none) (it tp : Addr) (ne : tp ≠ it) (xs : Array Value) :
    Draws prog w A it [it, tp] xs.size (fun i v => xs[i]? = some v) (fun i h => h.IsTupleIter it tp i /\ h.IsTuple tp xs) where
  live := fun _ _ z => let ⟨o, e, _⟩ := z.1; ⟨o, e⟩
  frame := fun _ _ _ z k => by
    obtain ⟨⟨o, e, r⟩, o2, e2, r2⟩ := z
    exact ⟨⟨o, k it (by simp) o e, r⟩, o2, k tp (by simp) o2 e2, r2⟩
  item := fun i s Q E hi z q => nextT_item z.1 z.2 (y := xs[i]) (by simp [hi]) fun h2 z2 sb => q _ h2 s.toks (by simp [hi]) ⟨z2, z.2.extBut sb.extBut ne⟩ sb
  done := fun s Q E z q => nextT_end hh z.1 z.2 (by simp) q
theorem meets_enumT (l : Addr) (items : Array Value) (n : Nat) (dct : Option Addr) (sl : Array (Option Value)) :
    Meets (Builtin.«enumerate.__new__» ⟨[.type "enumerate", .ref l], []⟩) (fun _ R s => s.heap.get? l = some { cls := .type "tuple", dict := dct, data := .seq items n, slots := sl } /\
      R (.ok (.ret (.ref (s.heap.push { cls := .type "tuple_iterator", data := .fields #[.ref l, .int 0 0] }).objs.size)))
        { s with heap := (s.heap.push { cls := .type "tuple_iterator", data := .fields #[.ref l, .int 0 0] }).push { cls := .type "enumerate", data := .fields #[.none, .bool false, .ref s.heap.objs.size, rawInt 0, .none, .none] } }) :=
  .of_wp fun prog w A R s h => by
    obtain ⟨hp, g, d, tk, os⟩ := s; obtain ⟨hl, q⟩ := h; have hsub := sub_enumerate
    have hT : Heap.IsTuple (Shared.heap ⟨hp, g, d, tk, os⟩) l items := ⟨_, hl, rfl, n, rfl⟩
    wp_walk using AutoSeq1.wpAny_loadPart' hl
    refine wpAny_stack_any fun st => wpAny_pure ?_
    split
    · rename_i c _ _ _ _ _
      cases (c == Value.type "enumerate") <;> (wp_walk using AutoSeq1.wpAny_loadPart' hl, wpAny_pyIter_tuple hT; exact ⟨_, rfl, q⟩)
    · wp_walk using AutoSeq1.wpAny_loadPart' hl, wpAny_pyIter_tuple hT
      exact ⟨_, rfl, q⟩
theorem call_enumT {l : Addr} {items : Array Value} {Q : Value -> Shared -> Prop} (hL : s.heap.IsTuple l items)
    (h : ∀ h', IsEnum h' (s.heap.objs.size + 1) s.heap.objs.size 0 .none -> h'.IsTupleIter s.heap.objs.size l 0 -> (∀ b o, s.heap.get? b = some o -> h'.get? b = some o) -> Q (.ref (s.heap.objs.size + 1)) { s with heap := h' }) :
    wpAny (model prog w) A (call (.type "enumerate") [.ref l]) Q E s := by
  obtain ⟨⟨c, dct, dt, sl⟩, hl, hc, n, hd⟩ := hL
  cases (show c = .type "tuple" from hc)
  cases (show dt = .seq items n from hd)
  refine callType_new F.called_enumerate (by decide) (F.typeCall_enumerate_1 _) (F.newCall_enumerate_1 _) (fun ob => F.args_object_init_2 ob _) F.entry_enumerate_new (meets_enumT l items n dct sl) ⟨hl, ?_⟩
  have hz : (s.heap.push { cls := .type "tuple_iterator", data := .fields #[.ref l, .int 0 0] }).objs.size = s.heap.objs.size + 1 := Heap.size_push ..
  show _ /\ _
  rw [hz]
  have he : IsEnum ((s.heap.push { cls := .type "tuple_iterator", data := .fields #[.ref l, .int 0 0] }).push { cls := .type "enumerate", data := .fields #[.none, .bool false, .ref s.heap.objs.size, rawInt 0, .none, .none] }) (s.heap.objs.size + 1) s.heap.objs.size 0 .none := by
    have := Heap.get?_push_size (s.heap.push { cls := .type "tuple_iterator", data := .fields #[.ref l, .int 0 0] }) (o := { cls := .type "enumerate", data := .fields #[.none, .bool false, .ref s.heap.objs.size, rawInt 0, .none, .none] }) rfl
    rwa [hz] at this
  exact ⟨⟨_, he, rfl⟩, h _ he ⟨_, Heap.get?_push_of_some _ (Heap.get?_push_size _ rfl), rfl, rfl⟩ fun b o x => Heap.get?_push_of_some _ (Heap.get?_push_of_some _ x)⟩
end
noncomputable def ItET (K : PySem.W.Frag) (a : Addr) : It := ⟨fun i H => ∃ xs x, SqT K H a xs /\ xs[i]? = some x, fun i H x H' => ∃ T y, (∀ xs, SqT K H a xs -> xs[i]? = some y) /\ x = .ref T /\ H T = none /\ H' = upd H T (.tup [.int i, y]), fun i H => ∃ xs, SqT K H a xs /\ xs.length = i⟩
noncomputable def ItEL (K : PySem.W.Frag) (a : Addr) : It := ⟨fun i H => ∃ xs x, SqL K H a xs /\ xs[i]? = some x, fun i H x H' => ∃ T y, (∀ xs, SqL K H a xs -> xs[i]? = some y) /\ x = .ref T /\ H T = none /\ H' = upd H T (.tup [.int i, y]), fun i H => ∃ xs, SqL K H a xs /\ xs.length = i⟩
theorem turn_enumT {P : Program} {w : World} {K : PySem.W.Frag} {elts : List Expr} {k : Nat} {pos : Pos} (e it a : Addr) (hei : e ≠ it) (hae : a ≠ e) (hai : a ≠ it) :
    Turn P w K (.Tuple elts k pos) (ItET K a) [e, it] e (fun i h => (∃ old, IsEnum h e it i old) /\ h.IsTupleIter it a i) where
  mem := by simp
  obj := fun i h st b hb => by
    obtain ⟨⟨old, he⟩, o, ho, hc, hd⟩ := st
    rcases List.mem_cons.mp hb with z | z
    · rw [z]; exact ⟨_, he, fun v z => by cases z⟩
    · rw [List.mem_singleton.mp z]; exact ⟨o, ho, fun v z => by rw [hd] at z; cases z⟩
  keep := fun i h h' st kp => by
    obtain ⟨⟨old, he⟩, o, ho, r⟩ := st
    exact ⟨⟨old, kp e (by simp) _ he⟩, o, kp it (by simp) o ho, r⟩
  item := by
    intro X hP hw hK hc i pins s σ H E I hf st hg
    subst hP hw hK
    obtain ⟨st1, st2⟩ := st
    obtain ⟨xs, x, hq, hx⟩ := hg
    obtain ⟨its, rv, p, hz⟩ := I.tuple hq
    obtain ⟨u0, hu, ru⟩ := rv.get hx
    have D := draws_tuple (prog := X.prog) (w := X.w) (A := X.A.in1) (I.ok.hd hc) it a hai its.toArray
    have W := WalksT.enumerateD D e hei (by simp; exact ⟨hei, Ne.symm hae⟩) (by simp)
    have hil : i < its.toArray.size := by rw [List.size_toArray]; exact (List.getElem?_eq_some_iff.mp hu).1
    refine W.item i s _ _ hil ⟨st1, st2, p⟩ fun T vals h' tk hPt hT hTup hMid hk => ⟨_, rfl, ?_⟩
    refine W.go elts k pos i T { s with heap := h', toks := tk } _ _ hMid fun h2 hst2 hk2 => ?_
    obtain ⟨tt, x2, hx2, rfl⟩ := hPt
    have ex : x2 = u0 := by
      rw [List.getElem?_toArray] at hx2
      exact Option.some.inj (hx2.symm.trans hu)
    subst ex
    have hTw : T ∉ [e, it] := W.apart i T h' hMid
    have hTup2 : h2.IsTuple T #[.int i tt, x2] := by
      obtain ⟨o, ho, r⟩ := hTup
      exact ⟨o, hk2 T o hTw ho, r⟩
    refine ⟨.ref T, upd H T (.tup [.int i, x]), ?_, rfl, ⟨T, x, fun ys hy => by rw [I.tuple_inj hy hq]; exact hx, rfl, I.hok.fresh hT, rfl⟩, ⟨hst2.1, hst2.2.1⟩, fun b hb => ?_⟩
    · refine I.turnLaid (t' := tk) (h' := h2) (fun b o hb y => hk2 b o hb (hk b o hb y)) hf hT ?_
      exact ⟨by show 2 <= sizeLine; decide, [.int i tt, x2], .cons ⟨tt, rfl⟩ (.cons ru .nil), hTup2⟩
    · rw [upd_ne (fun z : b = T => hTw (z ▸ hb))]; exact (hf b hb).1
  done := by
    intro X hP hw hK hc i pins s σ H E I hf st hg
    subst hP hw hK
    obtain ⟨st1, st2⟩ := st
    obtain ⟨xs, hq, hx⟩ := hg
    obtain ⟨its, rv, p, hz⟩ := I.tuple hq
    have hl := rv.length
    have D := draws_tuple (prog := X.prog) (w := X.w) (A := X.A.in1) (I.ok.hd hc) it a hai its.toArray
    have W := WalksT.enumerateD D e hei (by simp; exact ⟨hei, Ne.symm hae⟩) (by simp)
    refine W.done s _ _ ?_ fun h' tk hk => ⟨rfl, I.turnedL (t' := tk) hk hf⟩
    have e1 : its.toArray.size = i := by rw [List.size_toArray]; omega
    rw [e1]
    exact ⟨st1, st2, p⟩
  self := fun _ _ s _ _ st h => by
    obtain ⟨⟨old, he⟩, _⟩ := st
    exact wpAny_pyIter_enum he h
theorem turn_enumL {P : Program} {w : World} {K : PySem.W.Frag} {elts : List Expr} {k : Nat} {pos : Pos} (e it a : Addr) (hei : e ≠ it) (hae : a ≠ e) (hai : a ≠ it) :
    Turn P w K (.Tuple elts k pos) (ItEL K a) [e, it] e (fun i h => (∃ old, IsEnum h e it i old) /\ h.IsListIter it a i) where
  mem := by simp
  obj := fun i h st b hb => by
    obtain ⟨⟨old, he⟩, o, ho, hc, hd⟩ := st
    rcases List.mem_cons.mp hb with z | z
    · rw [z]; exact ⟨_, he, fun v z => by cases z⟩
    · rw [List.mem_singleton.mp z]; exact ⟨o, ho, fun v z => by rw [hd] at z; cases z⟩
  keep := fun i h h' st kp => by
    obtain ⟨⟨old, he⟩, o, ho, r⟩ := st
    exact ⟨⟨old, kp e (by simp) _ he⟩, o, kp it (by simp) o ho, r⟩
  item := by
    intro X hP hw hK hc i pins s σ H E I hf st hg
    subst hP hw hK
    obtain ⟨st1, st2⟩ := st
    obtain ⟨xs, x, hq, hx⟩ := hg
    obtain ⟨its, rv, p, hz⟩ := I.list hq
    obtain ⟨u0, hu, ru⟩ := rv.get hx
    have D := Draws.list (prog := X.prog) (w := X.w) (A := X.A.in1) (I.ok.hd hc) it a hai its.toArray
    have W := WalksT.enumerateD D e hei (by simp; exact ⟨hei, Ne.symm hae⟩) (by simp)
    have hil : i < its.toArray.size := by rw [List.size_toArray]; exact (List.getElem?_eq_some_iff.mp hu).1
    refine W.item i s _ _ hil ⟨st1, st2, p.isList⟩ fun T vals h' tk hPt hT hTup hMid hk => ⟨_, rfl, ?_⟩
    refine W.go elts k pos i T { s with heap := h', toks := tk } _ _ hMid fun h2 hst2 hk2 => ?_
    obtain ⟨tt, x2, hx2, rfl⟩ := hPt
    have ex : x2 = u0 := by
      rw [List.getElem?_toArray] at hx2
      exact Option.some.inj (hx2.symm.trans hu)
    subst ex
    have hTw : T ∉ [e, it] := W.apart i T h' hMid
    have hTup2 : h2.IsTuple T #[.int i tt, x2] := by
      obtain ⟨o, ho, r⟩ := hTup
      exact ⟨o, hk2 T o hTw ho, r⟩
    refine ⟨.ref T, upd H T (.tup [.int i, x]), ?_, rfl, ⟨T, x, fun ys hy => by rw [I.list_inj hy hq]; exact hx, rfl, I.hok.fresh hT, rfl⟩, ⟨hst2.1, hst2.2.1⟩, fun b hb => ?_⟩
    · refine I.turnLaid (t' := tk) (h' := h2) (fun b o hb y => hk2 b o hb (hk b o hb y)) hf hT ?_
      exact ⟨by show 2 <= sizeLine; decide, [.int i tt, x2], .cons ⟨tt, rfl⟩ (.cons ru .nil), hTup2⟩
    · rw [upd_ne (fun z : b = T => hTw (z ▸ hb))]; exact (hf b hb).1
  done := by
    intro X hP hw hK hc i pins s σ H E I hf st hg
    subst hP hw hK
    obtain ⟨st1, st2⟩ := st
    obtain ⟨xs, hq, hx⟩ := hg
    obtain ⟨its, rv, p, hz⟩ := I.list hq
    have hl := rv.length
    have D := Draws.list (prog := X.prog) (w := X.w) (A := X.A.in1) (I.ok.hd hc) it a hai its.toArray
    have W := WalksT.enumerateD D e hei (by simp; exact ⟨hei, Ne.symm hae⟩) (by simp)
    refine W.done s _ _ ?_ fun h' tk hk => ⟨rfl, I.turnedL (t' := tk) hk hf⟩
    have e1 : its.toArray.size = i := by rw [List.size_toArray]; omega
    rw [e1]
    exact ⟨st1, st2, p.isList⟩
  self := fun _ _ s _ _ st h => by
    obtain ⟨⟨old, he⟩, _⟩ := st
    exact wpAny_pyIter_enum he h
noncomputable def iEnumT (K : PySem.W.Frag) (ta : TA) : TI := fun σ H R => ta σ H fun vs H1 => ∃ a, vs = [.ref a] /\ (∃ xs, SqT K H1 a xs) /\ R (ItET K a) H1
noncomputable def iEnumL (K : PySem.W.Frag) (ta : TA) : TI := fun σ H R => ta σ H fun vs H1 => ∃ a, vs = [.ref a] /\ (∃ xs, SqL K H1 a xs) /\ R (ItEL K a) H1
theorem pi_enumT {X : Cx} (K : PySem.W.Frag) (hK : X.K = K) {elts : List Expr} {k : Nat} {pos' : Pos} {a : Expr} {ta : TA} {p pos : Pos} (hg : Gl X "enumerate") (hm : X.mg "enumerate" = none) (ha : PA X [a] ta) (hs : starEach [a] X.env = [(false, eval a X.env)] := by rfl) : PI X (.Tuple elts k pos') (.Call (.Name "enumerate" p) [a] [] pos) (iEnumT K ta) := by
  subst hK
  intro pins s σ H R I h
  refine Call_ (ld_blt I hg hm boot_enumerate (PyProof.Rows.callWith_type1 (thn (ha pos pins s σ H _ I h) fun us s1 ⟨vs, H1, I1, r1, q1⟩ => ?_) hs rfl))
  obtain ⟨b, rfl, ⟨xs, hq⟩, q⟩ := q1
  obtain ⟨u, rfl, ru⟩ := vals1 r1
  cases ru
  obtain ⟨its, rv, pl, hz⟩ := I1.tuple hq
  obtain ⟨ob, eb, _⟩ := id pl
  have hlt : b < s1.heap.objs.size := Heap.lt_size eb
  refine call_enumT pl fun h' he hit hk => wpAny_pyIter_enum he ?_
  refine ⟨s1.heap.objs.size + 1, [s1.heap.objs.size + 1, s1.heap.objs.size], _, _, H1, rfl, I1.kept (t' := s1.toks) hk, turn_enumT _ _ b (Nat.succ_ne_self _) (Nat.ne_of_lt (Nat.lt_succ_of_lt hlt)) (Nat.ne_of_lt hlt), ⟨⟨_, he⟩, hit⟩, fun c hb => ?_, q⟩
  have hb2 : s1.heap.objs.size <= c := by
    rcases List.mem_cons.mp hb with z | z
    · rw [z]; exact Nat.le_succ _
    · rw [List.mem_singleton.mp z]; exact Nat.le_refl _
  exact I1.fpOk hb2 (I1.hok.fresh hb2)
theorem pi_enumL {X : Cx} (K : PySem.W.Frag) (hK : X.K = K) {elts : List Expr} {k : Nat} {pos' : Pos} {a : Expr} {ta : TA} {p pos : Pos} (hg : Gl X "enumerate") (hm : X.mg "enumerate" = none) (ha : PA X [a] ta) (hs : starEach [a] X.env = [(false, eval a X.env)] := by rfl) : PI X (.Tuple elts k pos') (.Call (.Name "enumerate" p) [a] [] pos) (iEnumL K ta) := by
  subst hK
  intro pins s σ H R I h
  refine Call_ (ld_blt I hg hm boot_enumerate (PyProof.Rows.callWith_type1 (thn (ha pos pins s σ H _ I h) fun us s1 ⟨vs, H1, I1, r1, q1⟩ => ?_) hs rfl))
  obtain ⟨b, rfl, ⟨xs, hq⟩, q⟩ := q1
  obtain ⟨u, rfl, ru⟩ := vals1 r1
  cases ru
  obtain ⟨its, rv, pl, hz⟩ := I1.list hq
  obtain ⟨ob, eb, _⟩ := id pl.isList
  have hlt : b < s1.heap.objs.size := Heap.lt_size eb
  refine call_enumerate_list pl.isList fun h' he hit hsz hk => wpAny_pyIter_enum he ?_
  refine ⟨s1.heap.objs.size + 1, [s1.heap.objs.size + 1, s1.heap.objs.size], _, _, H1, rfl, I1.kept (t' := s1.toks) hk, turn_enumL _ _ b (Nat.succ_ne_self _) (Nat.ne_of_lt (Nat.lt_succ_of_lt hlt)) (Nat.ne_of_lt hlt), ⟨⟨_, he⟩, hit⟩, fun c hb => ?_, q⟩
  have hb2 : s1.heap.objs.size <= c := by
    rcases List.mem_cons.mp hb with z | z
    · rw [z]; exact Nat.le_succ _
    · rw [List.mem_singleton.mp z]; exact Nat.le_refl _
  exact I1.fpOk hb2 (I1.hok.fresh hb2)
theorem for_enumT {K : PySem.W.Frag} {a : Addr} {xs : List V} {g : TG} {tb : TS} {D : Ends} {σ : St} {H : Hp} (Pv : Nat -> St -> Hp -> Prop) (h0 : Pv 0 σ H) (hl : ∀ i σ H, i <= xs.length -> Pv i σ H -> SqT K H a xs)
    (hs : ∀ i x σ H T, xs[i]? = some x -> Pv i σ H -> H T = none -> g (.ref T) σ (upd H T (.tup [.int i, x])) fun σ2 H2 => tb { D with nx := Pv (i + 1), ct := Pv (i + 1), bk := D.nx } σ2 H2) (hd : ∀ σ H, Pv xs.length σ H -> D.nx σ H) :
    ∃ W : Nat -> Nat -> St -> Hp -> Prop, (∃ m, W 0 m σ H) /\ ∀ i m σ H, W i m σ H ->
      ((ItET K a).stop i H /\ D.nx σ H) \/ ((ItET K a).go i H /\ ∃ N : St -> Hp -> Prop, (∀ σ' H', N σ' H' -> ∃ m', m' < m /\ W (i + 1) m' σ' H') /\ ∀ x H', (ItET K a).yld i H x H' -> g x σ H' fun σ2 H2 => tb { D with nx := N, ct := N, bk := D.nx } σ2 H2) := by
  refine ⟨fun i m σ H => m = xs.length - i /\ i <= xs.length /\ Pv i σ H, ⟨xs.length, by simp, Nat.zero_le _, h0⟩, ?_⟩
  rintro i m σ H ⟨rfl, hi, p⟩
  have hq := hl i σ H hi p
  by_cases hlt : i < xs.length
  · refine .inr ⟨⟨xs, xs[i], hq, by simp [hlt]⟩, Pv (i + 1), fun σ' H' p' => ⟨xs.length - (i + 1), by omega, rfl, hlt, p'⟩, fun x H' y => ?_⟩
    obtain ⟨T, z, hz, rfl, hn, rfl⟩ := y
    exact hs i z σ _ T (hz xs hq) p hn
  · have e : i = xs.length := by omega
    subst e
    exact .inl ⟨⟨xs, hq, rfl⟩, hd σ H p⟩
theorem for_enumL {K : PySem.W.Frag} {a : Addr} {xs : List V} {g : TG} {tb : TS} {D : Ends} {σ : St} {H : Hp} (Pv : Nat -> St -> Hp -> Prop) (h0 : Pv 0 σ H) (hl : ∀ i σ H, i <= xs.length -> Pv i σ H -> SqL K H a xs)
    (hs : ∀ i x σ H T, xs[i]? = some x -> Pv i σ H -> H T = none -> g (.ref T) σ (upd H T (.tup [.int i, x])) fun σ2 H2 => tb { D with nx := Pv (i + 1), ct := Pv (i + 1), bk := D.nx } σ2 H2) (hd : ∀ σ H, Pv xs.length σ H -> D.nx σ H) :
    ∃ W : Nat -> Nat -> St -> Hp -> Prop, (∃ m, W 0 m σ H) /\ ∀ i m σ H, W i m σ H ->
      ((ItEL K a).stop i H /\ D.nx σ H) \/ ((ItEL K a).go i H /\ ∃ N : St -> Hp -> Prop, (∀ σ' H', N σ' H' -> ∃ m', m' < m /\ W (i + 1) m' σ' H') /\ ∀ x H', (ItEL K a).yld i H x H' -> g x σ H' fun σ2 H2 => tb { D with nx := N, ct := N, bk := D.nx } σ2 H2) := by
  refine ⟨fun i m σ H => m = xs.length - i /\ i <= xs.length /\ Pv i σ H, ⟨xs.length, by simp, Nat.zero_le _, h0⟩, ?_⟩
  rintro i m σ H ⟨rfl, hi, p⟩
  have hq := hl i σ H hi p
  by_cases hlt : i < xs.length
  · refine .inr ⟨⟨xs, xs[i], hq, by simp [hlt]⟩, Pv (i + 1), fun σ' H' p' => ⟨xs.length - (i + 1), by omega, rfl, hlt, p'⟩, fun x H' y => ?_⟩
    obtain ⟨T, z, hz, rfl, hn, rfl⟩ := y
    exact hs i z σ _ T (hz xs hq) p hn
  · have e : i = xs.length := by omega
    subst e
    exact .inl ⟨⟨xs, hq, rfl⟩, hd σ H p⟩
theorem comp_enum {l : List Nat} {σc : St} {g : TG} {tc : TT} {te : TE} {Q : VK} {H1 : Hp} (Pv : Nat -> List V -> Hp -> Prop) (hn : l.length < sizeLine) (h0 : Pv 0 [] H1)
    (hs : ∀ (i c : Nat) (acc : List V) (H : Hp) (T : Addr) (Nx : List V -> Hp -> Prop), l[i]? = some c -> acc.length <= i -> Pv i acc H -> H T = none -> (∀ acc' H', acc'.length <= i + 1 -> Pv (i + 1) acc' H' -> Nx acc' H') ->
      g (.ref T) σc (upd H T (.tup [.int i, .str (S [c])])) fun σ2 H2 => Wk σc σ2 /\ tc σ2 H2 fun b H3 => if b = true then te σ2 H3 fun v H4 => Nx (acc ++ [v]) H4 else Nx acc H3)
    (hd : ∀ acc H D, acc.length <= l.length -> Pv l.length acc H -> H D = none -> Q (.ref D) (upd H D (.lst acc))) : CompW (ItE l) σc g tc te Q H1 := by
  refine ⟨fun i m acc H => m = l.length - i /\ i <= l.length /\ acc.length <= i /\ Pv i acc H, ⟨l.length, by simp, Nat.zero_le _, Nat.le_refl _, h0⟩, ?_⟩
  rintro i m acc H ⟨rfl, hi, hl, p⟩
  refine ⟨by omega, ?_⟩
  by_cases hlt : i < l.length
  · refine .inr ⟨hlt, fun x H' y => ?_⟩
    obtain ⟨T, c, hc, rfl, hT, rfl⟩ := y
    exact hs i c acc _ T (fun acc' H' => ∃ m', m' < l.length - i /\ (m' = l.length - (i + 1) /\ i + 1 <= l.length /\ acc'.length <= i + 1 /\ Pv (i + 1) acc' H')) hc hl p hT fun acc' H' h1 h2 => ⟨l.length - (i + 1), by omega, rfl, hlt, h1, h2⟩
  · have e : i = l.length := by omega
    subst e
    exact .inl ⟨Nat.le_refl _, fun D hD => hd acc H D hl p hD⟩
section
variable {X : Cx}
noncomputable def rListAny (K : PySem.W.Frag) : List V -> Hp -> VK -> Prop := fun xs H Q => (∃ l : List Nat, xs = [.str (S l)] /\ l.length <= sizeLine /\ ∀ p, H p = none -> Q (.ref p) (upd H p (.lst (sgs l)))) \/ rListOf K xs H Q
theorem call_listAny (K : PySem.W.Frag) (h : X.K = K) (hc : X.calm = true) : CallR X (.type "list") (rListAny K) := by
  intro pins s σ H xs us Q I r q
  rcases q with q | q
  · exact call_listS hc pins s σ H xs us Q I r q
  · exact call_list_ofK K h pins s σ H xs us Q I r q
end
end L2
namespace L2
open PySem PySem.Spec PyProof.Rows
section
variable {X : Cx}
noncomputable def rTupOf (K : PySem.W.Frag) : List V -> Hp -> VK -> Prop := fun xs H Q => ∃ p ys, xs = [.ref p] /\ ((SqL K H p ys /\ ∀ l, H l = none -> Q (.ref l) (upd H l (.tup ys))) \/ (SqT K H p ys /\ Q (.ref p) H))
theorem call_tuple_ofK (K : PySem.W.Frag) (h : X.K = K) : CallR X (.type "tuple") (rTupOf K) := by subst h; exact call_tuple_of
theorem op_catTK (K : PySem.W.Frag) (h : X.K = K) : OpR X (binaryOp .Add) (rCatT K) := by subst h; exact op_catT
end
end L2
namespace L2
open PySem PySem.Spec PyProof.Rows
theorem comp_tup {K : PySem.W.Frag} {a : Addr} {xs : List V} {σc : St} {g : TG} {tc : TT} {te : TE} {Q : VK} {H1 : Hp} (Pv : Nat -> List V -> Hp -> Prop) (hn : xs.length < sizeLine) (hl : ∀ i acc H, Pv i acc H -> SqT K H a xs) (h0 : Pv 0 [] H1)
    (hs : ∀ (i : Nat) (x : V) (acc : List V) (H : Hp) (Nx : List V -> Hp -> Prop), i < xs.length -> xs[i]? = some x -> acc.length <= i -> Pv i acc H -> (∀ acc' H', acc'.length <= i + 1 -> Pv (i + 1) acc' H' -> Nx acc' H') ->
      g x σc H fun σ2 H2 => Wk σc σ2 /\ tc σ2 H2 fun b H3 => if b = true then te σ2 H3 fun v H4 => Nx (acc ++ [v]) H4 else Nx acc H3)
    (hd : ∀ acc H D, acc.length <= xs.length -> Pv xs.length acc H -> H D = none -> Q (.ref D) (upd H D (.lst acc))) : CompW (Itt K a) σc g tc te Q H1 :=
  comp_by (xs := fun i x => xs[i]? = some x) Pv hn (fun i acc H h p => ⟨xs, xs[i], hl i acc H p, by simp [h]⟩) (fun acc H p => ⟨xs, hl _ acc H p, Nat.le_refl _⟩) (fun i acc H x H' h p y => ⟨y.1, y.2 xs (hl i acc H p)⟩) h0 hs hd
theorem inV_two (l a b : Nat) : inV (.str (S [l])) [.str (S [a]), .str (S [b])] = (decide (l = a) || decide (l = b)) := by
  have key : ∀ c : Nat, eqV (.str (S [c])) (.str (S [l])) = decide (l = c) := fun c => by
    show decide (S [c] = S [l]) = _
    refine decide_eq_decide.mpr ⟨fun z => ?_, fun z => by rw [z]⟩
    have := congrArg (fun x : Str => x.cps.toList) z
    simpa [S, eq_comm] using this
  unfold inV
  rw [List.any_cons, List.any_cons, List.any_nil, key, key, Bool.or_false]
noncomputable def TSame (H H' : Hp) : Prop := ∀ c xs, H c = some (.tup xs) -> H' c = some (.tup xs)
theorem TSame.trans {H H1 H2 : Hp} (a : TSame H H1) (b : TSame H1 H2) : TSame H H2 := fun c xs h => b c xs (a c xs h)
theorem TSame.of {H H' : Hp} (s : Same H H') : TSame H H' := fun c xs h => s c _ h
theorem TSame.updL {H : Hp} {p : Addr} {ys : List V} {o : HO} (h : H p = some (.lst ys)) : TSame H (upd H p o) := fun c xs e => by
  rw [upd_ne (fun z => by rw [z, h] at e; cases e)]; exact e
theorem TSame.updN {H : Hp} {p : Addr} {o : HO} (h : H p = none) : TSame H (upd H p o) := fun c xs e => by
  rw [upd_ne (fun z => by rw [z, h] at e; cases e)]; exact e
end L2
namespace L2
open PySem PySem.Spec PyProof.Rows
section
variable {prog : Program} {w : World} {A : Around} {E : Value -> Shared -> Prop} {s : Shared}
noncomputable def PairAt (h : Heap) (v : Value) (n : Int × Int) : Prop := ∃ x ox t1 t2 m, v = .ref x /\ h.get? x = some ox /\ ox.cls = .type "tuple" /\ ox.data = .seq #[.int n.1 t1, .int n.2 t2] m
noncomputable def pairLt (x y : Int × Int) : Bool := decide (x.1 < y.1) || (decide (x.1 = y.1) && decide (x.2 < y.2))
theorem PairAt.keep {h h' : Heap} {v : Value} {n : Int × Int} (p : PairAt h v n) (k : ∀ b o, h.get? b = some o -> h'.get? b = some o) : PairAt h' v n := by
  obtain ⟨x, ox, t1, t2, m, e1, e2, r⟩ := p
  exact ⟨x, ox, t1, t2, m, e1, k _ _ e2, r⟩
theorem pair_lt {u v : Value} {a c : Int × Int} {Q : Bool -> Shared -> Prop} (hx : PairAt s.heap u a) (hy : PairAt s.heap v c) (q : Q (pairLt a c) s) : wpAny (model prog w) A (keyLt' (tuples' true) u v) Q E s := by
  obtain ⟨x, ox, t1, t2, n, rfl, gx, _, dx⟩ := hx
  obtain ⟨y, oy, t3, t4, k, rfl, gy, _, dy⟩ := hy
  refine PySem.W.kat_lt gx dx gy dy ?_
  refine PySem.W.kat_cons (wpAny_eqBool_int ?_)
  unfold pairLt at q
  by_cases h : a.1 = c.1
  · rw [show (a.1 == c.1) = true by simp [h]]
    refine PySem.W.kat_yes (PySem.W.kat_cons (wpAny_eqBool_int ?_))
    by_cases h2 : a.2 = c.2
    · rw [show (a.2 == c.2) = true by simp [h2]]
      refine PySem.W.kat_yes (PySem.W.kat_nil ?_)
      simpa [h, h2] using q
    · rw [show (a.2 == c.2) = false by simp [h2]]
      refine PySem.W.kat_no (PySem.W.kat_one _ _ (lt_int ?_))
      show Q (decide (a.2 < c.2)) s
      simpa [h] using q
  · rw [show (a.1 == c.1) = false by simp [h]]
    refine PySem.W.kat_no ?_
    show wpAny (model prog w) A (keyLt' oneType' _ _) Q _ s
    refine PySem.W.kat_lt_int ?_
    simpa [h] using q
noncomputable def PairsAt (h : Heap) : List Value -> List (Int × Int) -> Prop
  | [], [] => True
  | v :: vs, n :: ns => PairAt h v n /\ PairsAt h vs ns
  | _, _ => False
theorem PairsAt.keep {h h' : Heap} (k : ∀ b o, h.get? b = some o -> h'.get? b = some o) : ∀ {vs : List Value} {ns : List (Int × Int)}, PairsAt h vs ns -> PairsAt h' vs ns
  | [], [], _ => trivial
  | _ :: _, _ :: _, ⟨a, b⟩ => ⟨a.keep k, PairsAt.keep k b⟩
theorem PairsAt.get {h : Heap} : ∀ {vs : List Value} {ns : List (Int × Int)} {i : Nat}, PairsAt h vs ns -> (hi : i < vs.length) -> ∃ n, ns[i]? = some n /\ PairAt h (vs.getD i Value.none) n
  | [], [], i, _, hi => absurd hi (Nat.not_lt_zero _)
  | v :: vs, n :: ns, 0, ⟨a, _⟩, _ => ⟨n, rfl, a⟩
  | v :: vs, n :: ns, i + 1, ⟨_, b⟩, hi => by
    obtain ⟨m, e, p⟩ := PairsAt.get (i := i) b (Nat.lt_of_succ_lt_succ hi)
    exact ⟨m, e, p⟩
theorem PairsAt.tups {h : Heap} : ∀ {vs : List Value} {ns : List (Int × Int)}, PairsAt h vs ns -> ∃ fs, PySem.W.KatTups h vs fs /\ fs.length = vs.length /\ ∀ v ∈ fs, ∃ i t, v = Value.int i t
  | [], [], _ => ⟨[], trivial, rfl, fun _ h => absurd h List.not_mem_nil⟩
  | v :: vs, n :: ns, ⟨⟨x, ox, t1, t2, m, e1, e2, e3, e4⟩, b⟩ => by
    obtain ⟨fs, k1, k2, k3⟩ := PairsAt.tups b
    refine ⟨.int n.1 t1 :: fs, ⟨⟨x, ox, _, m, e1, e2, e3, e4, rfl⟩, k1⟩, by simp [k2], fun u hu => ?_⟩
    rcases List.mem_cons.mp hu with z | z
    · exact ⟨_, _, z⟩
    · exact k3 u z
theorem zip_snd : ∀ l : List Value, (l.zip l).map (fun x => x.2) = l
  | [] => rfl
  | v :: l => by rw [List.zip_cons_cons, List.map_cons, zip_snd l]
theorem PairsAt.ne {h : Heap} {vs : List Value} {ns : List (Int × Int)} (p : PairsAt h vs ns) {a : Addr} (ha : h.objs.size <= a) : ∀ v ∈ vs, v ≠ .ref a := fun v hv z => by
  obtain ⟨i, hi, e⟩ := List.mem_iff_getElem.mp hv
  obtain ⟨n, _, x, ox, t1, t2, m, e1, e2, _⟩ := p.get (i := i) hi
  have e3 : vs.getD i Value.none = v := by rw [List.getD_eq_getElem?_getD, List.getElem?_eq_getElem hi, e]; rfl
  rw [e3, z] at e1
  cases e1
  exact absurd (Nat.lt_of_lt_of_le (Heap.lt_size e2) ha) (Nat.lt_irrefl _)
end
section
variable {X : Cx}
noncomputable def PrsV (K : PySem.W.Frag) (H : Hp) : List V -> List (Int × Int) -> Prop
  | [], [] => True
  | v :: vs, n :: ns => (∃ t, v = .ref t /\ SqT K H t [.int n.1, .int n.2]) /\ PrsV K H vs ns
  | _, _ => False
theorem PrsV.at {pins : List (Addr × Obj)} {σ : St} {H : Hp} {s : Shared} (I : Inv X pins σ H s) : ∀ {vs : List V} {ns : List (Int × Int)} {us : List Value}, PrsV X.K H vs ns -> Vals vs us -> PairsAt s.heap us ns
  | [], [], _, _, .nil => trivial
  | v :: vs, n :: ns, _, ⟨⟨t, e, h⟩, b⟩, .cons r rs => by
    subst e
    cases r
    obtain ⟨its, rv, p, _⟩ := I.tuple h
    obtain ⟨u1, u2, e1, ⟨t1, r1⟩, ⟨t2, r2⟩⟩ := vals2 rv
    subst e1 r1 r2
    obtain ⟨o, ho, hc, m, hd⟩ := p
    exact ⟨⟨t, o, t1, t2, m, rfl, ho, hc, hd⟩, PrsV.at I b rs⟩
end
end L2
namespace L2
open PySem PySem.Spec PyProof.Rows
section
variable {prog : Program} {w : World} {A : Around} {E : Value -> Shared -> Prop} {s : Shared}
noncomputable def lexI : List Int -> List Int -> Bool
  | [], [] => false
  | [], _ :: _ => true
  | _ :: _, [] => false
  | a :: r, b :: t => if a = b then lexI r t else decide (a < b)
noncomputable def TupAt (h : Heap) (k : Nat) (v : Value) (ns : List Int) : Prop := ∃ x ox us m, v = .ref x /\ h.get? x = some ox /\ ox.cls = .type "tuple" /\ ox.data = .seq us m /\ IntsAre us.toList ns /\ ns.length = k + 1
theorem ints_len : ∀ {us : List Value} {ns : List Int}, IntsAre us ns -> us.length = ns.length
  | _, _, .nil => rfl
  | _, _, .cons _ _ h => congrArg (· + 1) (ints_len h)
theorem lex_ints {Q : Bool -> Shared -> Prop} : ∀ {us vs : List Value} {ns ms : List Int} {i : Nat}, IntsAre us ns -> IntsAre vs ms -> ns.length = ms.length -> Q (lexI ns ms) s -> PySem.W.KatLex prog w A true false Q (us.zip vs) i s
  | _, _, _, _, i, .nil, .nil, _, q => PySem.W.kat_nil q
  | _, _, _, _, i, .nil, .cons _ _ _, h, _ => by simp at h
  | _, _, _, _, i, .cons _ _ _, .nil, h, _ => by simp at h
  | _, _, _, _, i, .cons (ns := ns) a t1 h1, .cons (ns := ms) b t2 h2, h, q => by
    refine PySem.W.kat_cons (wpAny_eqBool_int ?_)
    have hl : ns.length = ms.length := by simpa using h
    by_cases e : a = b
    · rw [show (a == b) = true by simp [e]]
      refine PySem.W.kat_yes (lex_ints h1 h2 hl ?_)
      have q' : Q (if a = b then lexI ns ms else decide (a < b)) s := q
      rwa [if_pos e] at q'
    · rw [show (a == b) = false by simp [e]]
      have q' : Q (if a = b then lexI ns ms else decide (a < b)) s := q
      rw [if_neg e] at q'
      refine PySem.W.kat_no ?_
      by_cases z : i = 0
      · subst z
        exact PySem.W.kat_lt_int (E := fun _ _ => False) q'
      · have hb : (true && (i == 0)) = false := by simp [z]
        rw [hb]
        exact PySem.W.kat_one _ _ (lt_int q')
theorem tup_lt {k : Nat} {u v : Value} {a c : List Int} {Q : Bool -> Shared -> Prop} (hx : TupAt s.heap k u a) (hy : TupAt s.heap k v c) (q : Q (lexI a c) s) : wpAny (model prog w) A (keyLt' (tuples' true) u v) Q E s := by
  obtain ⟨x, ox, us, n, rfl, gx, _, dx, ix, lx⟩ := hx
  obtain ⟨y, oy, vs, m, rfl, gy, _, dy, iy, ly⟩ := hy
  have e1 := ints_len ix
  have e2 := ints_len iy
  refine PySem.W.kat_lt gx dx gy dy ?_
  rw [show decide (us.size < vs.size) = false from decide_eq_false (by rw [<- Array.length_toList, <- Array.length_toList]; omega)]
  exact lex_ints ix iy (by omega) q
theorem TupAt.keep {h h' : Heap} {k : Nat} {v : Value} {n : List Int} (p : TupAt h k v n) (kp : ∀ b o, h.get? b = some o -> h'.get? b = some o) : TupAt h' k v n := by
  obtain ⟨x, ox, us, m, e1, e2, r⟩ := p
  exact ⟨x, ox, us, m, e1, kp _ _ e2, r⟩
noncomputable def TupsAt (h : Heap) (k : Nat) : List Value -> List (List Int) -> Prop
  | [], [] => True
  | v :: vs, n :: ns => TupAt h k v n /\ TupsAt h k vs ns
  | _, _ => False
theorem TupsAt.keep {h h' : Heap} {k : Nat} (kp : ∀ b o, h.get? b = some o -> h'.get? b = some o) : ∀ {vs : List Value} {ns : List (List Int)}, TupsAt h k vs ns -> TupsAt h' k vs ns
  | [], [], _ => trivial
  | _ :: _, _ :: _, ⟨a, b⟩ => ⟨a.keep kp, TupsAt.keep kp b⟩
theorem TupsAt.get {h : Heap} {k : Nat} : ∀ {vs : List Value} {ns : List (List Int)} {i : Nat}, TupsAt h k vs ns -> (hi : i < vs.length) -> ∃ n, ns[i]? = some n /\ TupAt h k (vs.getD i Value.none) n
  | [], [], i, _, hi => absurd hi (Nat.not_lt_zero _)
  | v :: vs, n :: ns, 0, ⟨a, _⟩, _ => ⟨n, rfl, a⟩
  | v :: vs, n :: ns, i + 1, ⟨_, b⟩, hi => by
    obtain ⟨m, e, p⟩ := TupsAt.get (i := i) b (Nat.lt_of_succ_lt_succ hi)
    exact ⟨m, e, p⟩
theorem TupsAt.tups {h : Heap} {k : Nat} : ∀ {vs : List Value} {ns : List (List Int)}, TupsAt h k vs ns -> ∃ fs, PySem.W.KatTups h vs fs /\ fs.length = vs.length /\ ∀ v ∈ fs, ∃ i t, v = Value.int i t
  | [], [], _ => ⟨[], trivial, rfl, fun _ h => absurd h List.not_mem_nil⟩
  | v :: vs, n :: ns, ⟨⟨x, ox, us, m, e1, e2, e3, e4, e5, e6⟩, b⟩ => by
    obtain ⟨fs, k1, k2, k3⟩ := TupsAt.tups b
    obtain ⟨f, t, e7⟩ : ∃ f t, us[0]? = some (Value.int f t) := by
      rw [<- Array.getElem?_toList]
      generalize us.toList = l at e5
      cases e5 with
      | nil => simp at e6
      | cons a t _ => exact ⟨a, t, rfl⟩
    refine ⟨.int f t :: fs, ⟨⟨x, ox, us, m, e1, e2, e3, e4, e7⟩, k1⟩, by simp [k2], fun u hu => ?_⟩
    rcases List.mem_cons.mp hu with z | z
    · exact ⟨_, _, z⟩
    · exact k3 u z
theorem TupsAt.ne {h : Heap} {k : Nat} {vs : List Value} {ns : List (List Int)} (p : TupsAt h k vs ns) {a : Addr} (ha : h.objs.size <= a) : ∀ v ∈ vs, v ≠ .ref a := fun v hv z => by
  obtain ⟨i, hi, e⟩ := List.mem_iff_getElem.mp hv
  obtain ⟨n, _, x, ox, us, m, e1, e2, _⟩ := p.get (i := i) hi
  have e3 : vs.getD i Value.none = v := by rw [List.getD_eq_getElem?_getD, List.getElem?_eq_getElem hi, e]; rfl
  rw [e3, z] at e1
  cases e1
  exact absurd (Nat.lt_of_lt_of_le (Heap.lt_size e2) ha) (Nat.lt_irrefl _)
end
section
variable {X : Cx}
noncomputable def TpsV (K : PySem.W.Frag) (H : Hp) (k : Nat) : List V -> List (List Int) -> Prop
  | [], [] => True
  | v :: vs, n :: ns => (∃ t, v = .ref t /\ SqT K H t (n.map V.int) /\ n.length = k + 1) /\ TpsV K H k vs ns
  | _, _ => False
theorem TpsV.at {pins : List (Addr × Obj)} {σ : St} {H : Hp} {s : Shared} {k : Nat} (I : Inv X pins σ H s) : ∀ {vs : List V} {ns : List (List Int)} {us : List Value}, TpsV X.K H k vs ns -> Vals vs us -> TupsAt s.heap k us ns
  | [], [], _, _, .nil => trivial
  | v :: vs, n :: ns, _, ⟨⟨t, e, h, hl⟩, b⟩, .cons r rs => by
    subst e
    cases r
    obtain ⟨its, rv, p, _⟩ := I.tuple h
    obtain ⟨o, ho, hc, m, hd⟩ := p
    exact ⟨⟨t, o, its.toArray, m, rfl, ho, hc, hd, intsAre_of rv, hl⟩, TpsV.at I b rs⟩
end
end L2
namespace HT
open PySem PySem.Spec PyProof.Rows
section
variable {prog : Program} {w : World} {A : Around} {E : Value -> Shared -> Prop} {s : Shared}
theorem fm_congr {α β : Type} {f g : α -> Option β} : ∀ {l : List α}, (∀ a ∈ l, f a = g a) -> l.filterMap f = l.filterMap g
  | [], _ => rfl
  | a :: l, h => by rw [List.filterMap_cons, List.filterMap_cons, h a List.mem_cons_self, fm_congr fun b hb => h b (List.mem_cons_of_mem _ hb)]
theorem pick_back (xs : Array Value) : ((List.range xs.size).filterMap fun (m : Nat) => xs[(((xs.size : Int) - 1) + (m : Int) * -1).toNat]?).toArray = xs.toList.reverse.toArray := by
  have e : ((List.range xs.size).filterMap fun (m : Nat) => xs[(((xs.size : Int) - 1) + (m : Int) * -1).toNat]?) = ((List.range xs.size).map fun k => xs.size - 1 - k).filterMap (xs[·]?) := by
    rw [List.filterMap_map]
    refine fm_congr fun m hm => ?_
    have := List.mem_range.mp hm
    show xs[_]? = xs[xs.size - 1 - m]?
    congr 1
    omega
  rw [e, PySem.W.krv_range, List.filterMap_reverse, PySem.W.krv_all]
theorem sliceApplied_back {sl : Addr} {vk : Value} {n : Nat} {Q : Int × Int × Nat -> Shared -> Prop} (hs : s.heap.IsSliceOf sl .none .none vk) (pk : IsPart vk (some (-1))) (h : Q ((n : Int) - 1, -1, n) s) : wpAny (model prog w) A (Builtin.Slice.sliceApplied (.ref sl) (pure (n : Int))) Q E s := by
  obtain ⟨os, hos, hcs, hds⟩ := id hs
  unfold Builtin.Slice.sliceApplied Builtin.Slice.sliceFields
  refine wpAny_bind (wpAny_bind (wpAny_field hos hds (x := .none) rfl (wpAny_bind (wpAny_field hos hds (x := .none) rfl (wpAny_bind (wpAny_field hos hds (x := vk) rfl (wpAny_pure ?_)))))))
  refine wpAny_bind (slicePart_ pk ?_)
  show wpAny _ _ (if ((-1 : Int) == 0) = true then _ else _) _ _ s
  rw [if_neg (by decide)]
  refine wpAny_bind (slicePart_none (wpAny_bind (slicePart_none (wpAny_bind (wpAny_pure ?_)))))
  have e : Builtin.Slice.sliceAdjust none none (-1) (n : Int) = ((n : Int) - 1, -1) := by
    unfold Builtin.Slice.sliceAdjust
    simp
  have e2 : Builtin.Slice.slicePlaces ((n : Int) - 1) (-1) (-1) = n := by
    unfold Builtin.Slice.slicePlaces
    simp
    omega
  show wpAny _ _ (match Builtin.Slice.sliceAdjust none none (-1) (n : Int) with | (lo, hi) => pure (lo, (-1 : Int), Builtin.Slice.slicePlaces lo hi (-1))) _ _ s
  rw [e]
  show wpAny _ _ (pure ((n : Int) - 1, (-1 : Int), Builtin.Slice.slicePlaces ((n : Int) - 1) (-1) (-1))) _ _ s
  rw [e2]
  exact wpAny_pure h
theorem getItem_tuple_back {t sl : Addr} {items : Array Value} {vk : Value} {Q : Value -> Shared -> Prop} (ht : IsTup s.heap t items) (hs : s.heap.IsSliceOf sl .none .none vk) (pk : IsPart vk (some (-1)))
    (h : Q (.ref s.heap.objs.size) { s with heap := s.heap.push { cls := .type "tuple", data := .seq items.toList.reverse.toArray } }) (hsz : items.size <= sizeLine) : wpAny (model prog w) A (getItem (.ref t) (.ref sl)) Q E s := by
  have htake : sizeOk (.seq items.toList.reverse.toArray) := by
    show items.toList.reverse.toArray.size <= sizeLine
    rw [List.size_toArray, List.length_reverse, Array.length_toList]; exact hsz
  obtain ⟨os, hos, hcs, hds⟩ := id hs
  have hTs : s.TypeIs (.ref sl) "slice" := ⟨os, hos, hcs⟩
  unfold getItem
  try with_reducible refine wpAny_holding ?_
  first | refine wpAny_bind (wpAny_pure ?_) | skip
  refine wpAny_bind (wpAny_sequenceKey ht.typeIs (by decide) ?_)
  refine wpAny_bind (wpAny_callSpecial?_slot (name := Str.ofString "__getitem__") ht.typeIs PyProof.Rows.slot_tuple_getitem
    (wpAny_call_entry PyProof.Rows.slot_tuple_getitem ht.typeIs entry_tuple_getitem ?_ (args_tuple_getitem _ _)))
  show wpAny _ _ (Builtin.Tuple.tupleItemsOf (.ref t) >>= _) _ _ s
  refine wpAny_bind (tupleItemsOf_ ht ?_)
  refine wpAny_bind (wpAny_typeOf hTs ?_)
  rw [if_pos (by decide)]
  refine wpAny_bind (sliceApplied_back hs pk ?_)
  have hno : ¬ ((((items.size : Int) - 1) == 0 && (-1 : Int) == 1 && items.size == items.size) = true) := by
    intro q
    rw [Bool.and_eq_true, Bool.and_eq_true] at q
    exact absurd q.1.2 (by decide)
  show wpAny _ _ (if (((items.size : Int) - 1) == 0 && (-1 : Int) == 1 && items.size == items.size) = true then _ else _) _ _ s
  rw [if_neg hno, pick_back]
  first
    | exact wpAny_bind (m := Builtin.Tuple.tupleExact _) (wpAny_newObj_type (wpAny_pure ⟨_, rfl, wpAny_pure h⟩) htake)
    | exact wpAny_bind (m := Builtin.Tuple.tupleExact _) (wpAny_newObj_type (wpAny_bind (wpAny_pure (wpAny_pure ⟨_, rfl, wpAny_pure h⟩))) htake)
    | exact wpAny_bind (wpAny_bind (m := Builtin.Tuple.tupleExact _) (wpAny_newObj_type (wpAny_pure (wpAny_pure ⟨_, rfl, wpAny_pure h⟩)) htake))
    | exact wpAny_bind (wpAny_bind (m := Builtin.Tuple.tupleExact _) (wpAny_newObj_type (wpAny_pure ⟨_, rfl, wpAny_pure h⟩) htake))
end
end HT
namespace L2
open PySem PySem.Spec PyProof.Rows
section
variable {X : Cx} {e st : Expr} {te : TE} {ts : TO} {pos p2 : Pos}
noncomputable def tRevT (K : PySem.W.Frag) (te : TE) (ts : TO) : TE := fun σ H Q => te σ H fun x H1 => ts σ H1 fun o H2 => o = some (-1) /\ ∃ a xs, x = .ref a /\ SqT K H2 a xs /\ ∀ p, H2 p = none -> Q (.ref p) (upd H2 p (.tup xs.reverse))
theorem pe_revT (K : PySem.W.Frag) (hK : X.K = K) (he : PE X e te) (hs : PO X (some st) ts) : PE X (.Subscript e (.Slice none none (some st) p2) pos) (tRevT K te ts) := by
  subst hK
  intro pins s σ H Q I h
  refine Subscript_ (thn (he pins s σ H _ I h) fun v s1 ⟨x, H1, I1, r1, q1⟩ => ?_)
  refine wpAny_Slice ?_
  rw [evalPart_none]
  refine wpAny_pure (wpAny_pure (thn (hs pins s1 σ H1 _ I1 q1) fun vk s3 ⟨o, H3, I3, pk, eo, a, xs, ex, hx, q3⟩ => ?_))
  subst eo ex
  cases r1
  have I4 : Inv X pins σ H3 { s3 with heap := s3.heap.push { cls := .type "slice", data := .fields #[.none, .none, vk] } } := I3.kept (t' := s3.toks) fun b ob q => Heap.get?_push_of_some _ q
  obtain ⟨its, r, ht, hz⟩ := I4.tuple hx
  have hlen : its.toArray.size = xs.length := by rw [List.size_toArray]; exact r.length.symm
  show wpAny (model X.prog X.w) X.A (subscriptTail e (.Slice none none (some st) p2) (.ref a) (.ref s3.heap.objs.size)) (EP X pins σ Q) X.xe { s3 with heap := s3.heap.push { cls := .type "slice", data := .fields #[.none, .none, vk] } }
  refine tail_any (ops := [.ref a, .ref s3.heap.objs.size]) ht.typeIs PyProof.Rows.slot_tuple_getitem.lookup (HT.getItem_tuple_back ht (Heap.IsSliceOf.new ..) pk ?_ (by rw [hlen]; exact hz)) (by with_unfolding_all rfl)
  refine ⟨.ref _, _, I4.laid (t' := s3.toks) (o := .tup xs.reverse) (fun b ob q => Heap.get?_push_of_some _ q) (Nat.le_refl _) ?_, rfl, q3 _ (I4.hok.fresh (Nat.le_refl _))⟩
  exact ⟨by rw [List.length_reverse]; exact hz, _, r.reverse, IsTup.new _ _⟩
end
end L2
namespace L2
open PySem PySem.Spec PyProof.Rows
section
variable {κ : Type} [DecidableEq κ]
noncomputable def valV (kvs : List (κ × V)) (k : κ) : Option V := (kvs.find? fun kv => decide (kv.1 = k)).map (·.2)
noncomputable def putK (kvs : List (κ × V)) (k : κ) (v : V) : List (κ × V) :=
  if (kvs.any fun kv => decide (kv.1 = k)) = true then kvs.map (fun kv => if kv.1 = k then (kv.1, v) else kv) else kvs ++ [(k, v)]
noncomputable def dropK (kvs : List (κ × V)) (k : κ) : List (κ × V) := kvs.filter fun kv => decide (kv.1 ≠ k)
theorem valV_pos {p : κ × V} {r : List (κ × V)} {k : κ} (e : p.1 = k) : valV (p :: r) k = some p.2 := by simp [valV, List.find?_cons, e]
theorem valV_neg {p : κ × V} {r : List (κ × V)} {k : κ} (e : ¬ p.1 = k) : valV (p :: r) k = valV r k := by simp [valV, List.find?_cons, e]
theorem valV_any (k : κ) : ∀ kvs : List (κ × V), (kvs.any fun kv => decide (kv.1 = k)) = (valV kvs k).isSome
  | [] => rfl
  | p :: r => by
    rw [List.any_cons]
    by_cases e : p.1 = k
    · simp only [valV_pos e, decide_eq_true e, Bool.true_or, Option.isSome_some]
    · rw [valV_neg e, decide_eq_false e, Bool.false_or]; exact valV_any k r
theorem valV_map (k j : κ) (y : V) : ∀ kvs : List (κ × V), valV (kvs.map fun kv => if kv.1 = k then (kv.1, y) else kv) j = (valV kvs j).map fun x => if j = k then y else x
  | [] => rfl
  | p :: r => by
    have ih := valV_map k j y r
    rw [List.map_cons]
    by_cases h : p.1 = k
    · rw [if_pos h]
      by_cases e : p.1 = j
      · rw [valV_pos (p := (p.1, y)) e, valV_pos e, Option.map_some, if_pos (e.symm.trans h)]
      · rw [valV_neg (p := (p.1, y)) e, valV_neg e, ih]
    · rw [if_neg h]
      by_cases e : p.1 = j
      · rw [valV_pos (p := p) e, valV_pos e, Option.map_some, if_neg (fun z => h (e.trans z))]
      · rw [valV_neg (p := p) e, valV_neg e, ih]
theorem valV_snoc (k j : κ) (y : V) : ∀ kvs : List (κ × V), valV kvs k = none -> valV (kvs ++ [(k, y)]) j = if j = k then some y else valV kvs j
  | [], _ => by
    by_cases e : k = j
    · rw [if_pos e.symm]; exact valV_pos (p := (k, y)) e
    · rw [if_neg (fun z => e z.symm)]; exact valV_neg (p := (k, y)) e
  | p :: r, hn => by
    rw [List.cons_append]
    have hk : ¬ p.1 = k := fun z => by rw [valV_pos z] at hn; cases hn
    rw [valV_neg hk] at hn
    have ih := valV_snoc k j y r hn
    by_cases e : p.1 = j
    · rw [valV_pos e, valV_pos e, if_neg (fun z => hk (e.trans z))]
    · rw [valV_neg e, valV_neg e, ih]
theorem valV_put (kvs : List (κ × V)) (k j : κ) (y : V) : valV (putK kvs k y) j = if j = k then some y else valV kvs j := by
  unfold putK
  by_cases a : (kvs.any fun kv => decide (kv.1 = k)) = true
  · rw [if_pos a, valV_map]
    rw [valV_any] at a
    by_cases e : j = k
    · obtain ⟨x, hx⟩ := Option.isSome_iff_exists.mp a
      rw [if_pos e, e, hx, Option.map_some, if_pos rfl]
    · rw [if_neg e]
      cases valV kvs j with
      | none => rfl
      | some x => rw [Option.map_some, if_neg e]
  · rw [if_neg a]
    refine valV_snoc k j y kvs ?_
    rw [valV_any] at a
    cases q : valV kvs k with
    | none => rfl
    | some x => rw [q] at a; exact (a rfl).elim
theorem length_putK (kvs : List (κ × V)) (k : κ) (v : V) : (putK kvs k v).length <= kvs.length + 1 := by
  unfold putK
  split
  · rw [List.length_map]; omega
  · rw [List.length_append, List.length_cons, List.length_nil]; omega
theorem RelO.isSome_eq {o : Option V} {u : Option Value} (r : RelO o u) : o.isSome = u.isSome := by
  cases o with
  | none => cases u with
    | none => rfl
    | some _ => exact (show False from r).elim
  | some _ => cases u with
    | none => exact (show False from r).elim
    | some _ => rfl
theorem KV.val {kvs : List (κ × V)} {vs : List (κ × Value)} (r : KV kvs vs) (k : κ) : RelO (valV kvs k) (valueAt vs k) := by
  unfold KV at r
  induction r with
  | nil => exact True.intro
  | @cons p q ps qs h t ih =>
    obtain ⟨h1, h2⟩ := h
    by_cases e : p.1 = k
    · have e' : q.1 = k := h1.symm.trans e
      have b : valueAt (q :: qs) k = some q.2 := by simp [valueAt, List.find?_cons, e']
      rw [valV_pos e, b]; exact h2
    · have e' : ¬ q.1 = k := fun z => e (h1.trans z)
      have b : valueAt (q :: qs) k = valueAt qs k := by simp [valueAt, List.find?_cons, e']
      rw [valV_neg e, b]; exact ih
theorem KV.any {kvs : List (κ × V)} {vs : List (κ × Value)} (r : KV kvs vs) (k : κ) : (kvs.any fun kv => decide (kv.1 = k)) = vs.any fun kv => decide (kv.1 = k) := by
  unfold KV at r
  induction r with
  | nil => rfl
  | cons h t ih => rw [List.any_cons, List.any_cons, ih, h.1]
theorem KV.repl {kvs : List (κ × V)} {vs : List (κ × Value)} (r : KV kvs vs) (k : κ) {y : V} {u : Value} (ry : RelV y u) :
    KV (kvs.map fun kv => if kv.1 = k then (kv.1, y) else kv) (vs.map fun kv => if kv.1 = k then (kv.1, u) else kv) := by
  unfold KV at r ⊢
  induction r with
  | nil => exact .nil
  | @cons p q ps qs h t ih =>
    rw [List.map_cons, List.map_cons]
    refine .cons ?_ ih
    obtain ⟨h1, h2⟩ := h
    by_cases e : p.1 = k
    · rw [if_pos e, if_pos (h1.symm.trans e)]; exact ⟨h1, ry⟩
    · rw [if_neg e, if_neg (fun z => e (h1.trans z))]; exact ⟨h1, h2⟩
theorem KV.put {kvs : List (κ × V)} {vs : List (κ × Value)} (r : KV kvs vs) (k : κ) {y : V} {u : Value} (ry : RelV y u) : KV (putK kvs k y) (stored vs k u) := by
  unfold putK stored
  rw [r.any k]
  by_cases e : (vs.any fun kv => decide (kv.1 = k)) = true
  · rw [if_pos e, if_pos e]; exact r.repl k ry
  · rw [if_neg e, if_neg e]; exact Paired.snoc r ⟨rfl, ry⟩
theorem KV.length {kvs : List (κ × V)} {vs : List (κ × Value)} (r : KV kvs vs) : kvs.length = vs.length := Paired.length r
end
theorem kV_is {P : Program} {w : World} {k : Key} {u : Value} (r : RelV (kV k) u) : (mixKind P w).is k u = true := by
  cases k with
  | inl i => obtain ⟨t, e⟩ := (show ∃ t, u = Value.int i t from r); subst e; exact mixKind_int P w i t
  | inr x => obtain ⟨t, e⟩ := (show ∃ t, u = Value.str x t from r); subst e; exact mixKind_str P w x t
theorem items_are {P : Program} {w : World} : ∀ {ks : List Key} {us : List Value}, Vals (ks.map kV) us -> ItemsAre (mixKind P w) ks us
  | [], _, r => by rw [List.map_nil] at r; cases r; exact .nil
  | k :: ks, _, r => by
    rw [List.map_cons] at r
    cases r with
    | cons h t => exact .cons (kV_is h) (items_are t)
noncomputable abbrev KT (H : Hp) : List (List Key × V) -> List (List Key × Addr × Value) -> Prop := Paired fun p q => p.1 = q.1 /\ H q.2.1 = some (.tup (p.1.map kV)) /\ RelV p.2 q.2.2
theorem KT.val {H : Hp} {kvs : List (List Key × V)} {xs : List (List Key × Addr × Value)} (r : KT H kvs xs) (k : List Key) : RelO (valV kvs k) ((atKey xs k).map (·.2)) := by
  induction r with
  | nil => exact True.intro
  | @cons p q ps qs h t ih =>
    obtain ⟨h1, _, h2⟩ := h
    by_cases e : p.1 = k
    · have e' : q.1 = k := h1.symm.trans e
      have b : atKey (q :: qs) k = some q.2 := by simp [atKey, List.find?_cons, e']
      rw [valV_pos e, b]; exact h2
    · have e' : ¬ q.1 = k := fun z => e (h1.trans z)
      have b : atKey (q :: qs) k = atKey qs k := by simp [atKey, List.find?_cons, e']
      rw [valV_neg e, b]; exact ih
theorem KT.repl {H : Hp} {kvs : List (List Key × V)} {xs : List (List Key × Addr × Value)} (r : KT H kvs xs) (k : List Key) {y : V} {u : Value} (ry : RelV y u) :
    KT H (kvs.map fun kv => if kv.1 = k then (kv.1, y) else kv) (xs.map (putAt k u)) := by
  induction r with
  | nil => exact .nil
  | @cons p q ps qs h t ih =>
    rw [List.map_cons, List.map_cons]
    refine .cons ?_ ih
    obtain ⟨h1, h2, h3⟩ := h
    unfold putAt
    by_cases e : p.1 = k
    · rw [if_pos e, if_pos (h1.symm.trans e)]; exact ⟨h1, h2, ry⟩
    · rw [if_neg e, if_neg (fun z => e (h1.trans z))]; exact ⟨h1, h2, h3⟩
theorem KT.put {H : Hp} {kvs : List (List Key × V)} {xs : List (List Key × Addr × Value)} (r : KT H kvs xs) (k : List Key) {b : Addr} {y : V} {u : Value} (hb : H b = some (.tup (k.map kV))) (ry : RelV y u) :
    KT H (putK kvs k y) (storedH xs k b u) := by
  have e : (kvs.any fun kv => decide (kv.1 = k)) = (atKey xs k).isSome := by
    rw [valV_any, (r.val k).isSome_eq, Option.isSome_map]
  unfold putK storedH
  rw [e]
  by_cases q : (atKey xs k).isSome = true
  · rw [if_pos q, if_pos q]; exact r.repl k ry
  · rw [if_neg q, if_neg q]; exact Paired.snoc r ⟨rfl, hb, ry⟩
theorem KT.keeps {H H' : Hp} {kvs : List (List Key × V)} {xs : List (List Key × Addr × Value)} (r : KT H kvs xs) (ht : ∀ b ys, H b = some (.tup ys) -> H' b = some (.tup ys)) : KT H' kvs xs :=
  Paired.mapP r fun _ _ z => ⟨z.1, ht _ _ z.2.1, z.2.2⟩
section
variable {P : Program} {w : World} {H : Hp} {h : Heap} {a : Addr}
theorem rd_of {u : HO} (ok : HOk P w H h) (e : Rd H a u) : ObjOk P w H h a u := e.ok ok
theorem dk_rd {kvs : List (Key × V)} (ok : HOk P w H h) (e : Rd H a (.dK kvs)) : kvs.length <= sizeLine /\ (a == sysModules) = false /\ ∃ vs, KV kvs vs /\ h.DictOf (mixKind P w) a vs :=
  show ObjOk P w H h a (.dK kvs) from rd_of ok e
theorem dk_of {kvs : List (Key × V)} (ok : HOk P w H h) (e : H a = some (.dK kvs)) : kvs.length <= sizeLine /\ (a == sysModules) = false /\ ∃ vs, KV kvs vs /\ h.DictOf (mixKind P w) a vs := dk_rd ok (.inl e)
theorem key_of {ks : List Key} (ok : HOk P w H h) (e : H a = some (.tup (ks.map kV))) : (tupleKind (mixKind P w)).is h ks a := by
  obtain ⟨_, its, r, o, h1, h2, n, h3⟩ := (show ObjOk P w H h a (.tup (ks.map kV)) from ok a _ e)
  exact ⟨o, its.toArray, n, h1, h2, h3, by simpa using items_are r⟩
theorem dt_rd {kvs : List (List Key × V)} (ok : HOk P w H h) (e : Rd H a (.dT kvs)) : kvs.length <= sizeLine /\ (a == sysModules) = false /\
    ∃ xs, KT H kvs xs /\ h.DictOfH (tupleKind (mixKind P w)) a xs := by
  obtain ⟨z, y, xs, r, o, es, ep, h1, h2, h3, h4, h5⟩ := (show ObjOk P w H h a (.dT kvs) from rd_of ok e)
  refine ⟨z, y, xs, r, o, es, ep, h1, h2, h3, h4, fun x hx => ?_, h5⟩
  have all : ∀ {l : List (List Key × V)} {m : List (List Key × Addr × Value)}, KT H l m -> ∀ x ∈ m, (tupleKind (mixKind P w)).is h x.1 x.2.1 := by
    intro l m q
    induction q with
    | nil => intro x hx; exact nomatch hx
    | @cons p q ps qs hq t ih =>
      intro x hx
      rcases List.mem_cons.mp hx with e | hx
      · subst e
        exact key_of ok (by rw [<- hq.1]; exact hq.2.1)
      · exact ih x hx
  exact all r x hx
theorem dt_of {kvs : List (List Key × V)} (ok : HOk P w H h) (e : H a = some (.dT kvs)) : kvs.length <= sizeLine /\ (a == sysModules) = false /\
    ∃ xs, KT H kvs xs /\ h.DictOfH (tupleKind (mixKind P w)) a xs := dt_rd ok (.inl e)
end
noncomputable def DGet (H : Hp) (a : Addr) (y : V) (r : Option V) : Prop :=
  (∃ kvs k, Rd H a (.dK kvs) /\ y = kV k /\ r = valV kvs k) \/ ∃ kvs k b, Rd H a (.dT kvs) /\ y = .ref b /\ H b = some (.tup (k.map kV)) /\ r = valV kvs k
noncomputable def DPut (H : Hp) (a : Addr) (y v : V) (H' : Hp) : Prop :=
  (∃ kvs k, H a = some (.dK kvs) /\ y = kV k /\ kvs.length < sizeLine /\ H' = upd H a (.dK (putK kvs k v))) \/
  ∃ kvs k b, H a = some (.dT kvs) /\ y = .ref b /\ H b = some (.tup (k.map kV)) /\ kvs.length < sizeLine /\ H' = upd H a (.dT (putK kvs k v))
theorem DGet.t {H : Hp} {a b : Addr} {kvs : List (List Key × V)} {k : List Key} (e : H a = some (.dT kvs)) (eb : H b = some (.tup (k.map kV))) : DGet H a (.ref b) (valV kvs k) := .inr ⟨kvs, k, b, .inl e, rfl, eb, rfl⟩
theorem DPut.t {H : Hp} {a b : Addr} {kvs : List (List Key × V)} {k : List Key} {v : V} (e : H a = some (.dT kvs)) (eb : H b = some (.tup (k.map kV))) (hl : kvs.length < sizeLine) :
    DPut H a (.ref b) v (upd H a (.dT (putK kvs k v))) := .inr ⟨kvs, k, b, e, rfl, eb, hl, rfl⟩
section
variable {X : Cx} {pins : List (Addr × Obj)} {σ : St} {H : Hp} {s : Shared} {a : Addr} {y v : V} {u r : Value} {o : Option V} {A : Around} {E : Value -> Shared -> Prop}
theorem Inv.big (I : Inv X pins σ H s) : sysModules < s.heap.objs.size := by
  have h : mainGlobals < s.heap.objs.size := (I.mod.glob.keeps I.bk).lt
  exact Nat.lt_trans (by decide) h
theorem d_getItem {Q : Value -> Shared -> Prop} (hu : A.units + 1 < cLine) (I : Inv X pins σ H s) (g : DGet H a y (some v)) (ry : RelV y u) (h : ∀ w' s', Inv X pins σ H s' -> RelV v w' -> Q w' s') :
    wpAny (model X.prog X.w) A (getItem (.ref a) u) Q E s := by
  rcases g with ⟨kvs, k, e, ey, l⟩ | ⟨kvs, k, b, e, ey, eb, l⟩
  · subst ey
    obtain ⟨z, hd, vs, rel, dd⟩ := dk_rd I.hok e
    obtain ⟨w', hw, rw'⟩ := RelO.some_of (v := v) (o := valueAt vs k) (by rw [l]; exact rel.val k)
    exact wpAny_getItem_of (kV_is ry) dd.mapOf hw (h w' _ (I.tok _) rw')
  · subst ey
    cases (show u = Value.ref b from ry)
    obtain ⟨z, hd, xs, rel, dd⟩ := dt_rd I.hok e
    obtain ⟨w', hw, rw'⟩ := RelO.some_of (v := v) (o := (atKey xs k).map (·.2)) (by rw [l]; exact rel.val k)
    obtain ⟨p, hp, hp2⟩ := Option.map_eq_some_iff.mp hw
    refine wpAny_getItem_heap (tupleKind_room_in1 hu) (key_of I.hok eb) dd hp ?_
    rw [hp2]
    exact h w' _ (I.tok _) rw'
theorem d_write {h' : Heap} {t' : Nat} {ob : HO} (I : Inv X pins σ H s) (mu : Mut (H a)) (hs : Heap.SameBut a s.heap h') (he : ∃ q, h'.get? a = some q) (new : ObjOk X.prog X.w (upd H a ob) h' a ob) :
    Inv X pins σ (upd H a ob) { s with heap := h', toks := t' } :=
  I.write (x := a) (e := a) mu (.inl rfl) (fun b q hb z => (hs.2 b hb).trans z) he new
theorem dk_new {P : Program} {w : World} {H' : Hp} {h' : Heap} {kvs : List (Key × V)} {vs : List (Key × Value)} (z : kvs.length <= sizeLine) (hd : (a == sysModules) = false) (rel : KV kvs vs) (dd : h'.DictOf (mixKind P w) a vs) :
    ObjOk P w H' h' a (.dK kvs) := ⟨z, hd, vs, rel, dd⟩
theorem d_setItem {H' : Hp} {Q : Unit -> Shared -> Prop} (hu : A.units + 1 < cLine) (I : Inv X pins σ H s) (g : DPut H a y v H') (ry : RelV y u) (rv : RelV v r) (h : ∀ s', Inv X pins σ H' s' -> Q () s') :
    wpAny (model X.prog X.w) A (setItem (.ref a) u r) Q E s := by
  rcases g with ⟨kvs, k, e, ey, l, eH⟩ | ⟨kvs, k, b, e, ey, eb, l, eH⟩
  · subst ey eH
    obtain ⟨z, hd, vs, rel, dd⟩ := dk_of I.hok e
    have hz : vs.length <= sizeLine := by rw [<- rel.length]; exact z
    have hl : (putK kvs k v).length <= sizeLine := by have := length_putK kvs k v; omega
    refine wpAny_setItem_pairs (hsz := hz) (kV_is ry) dd fun h' dd' hs => h _ ?_
    have he : ∃ q, h'.get? a = some q := let ⟨q, _, _, hq, _⟩ := dd'; ⟨q, hq⟩
    exact d_write I (by rw [e]; exact True.intro) hs he (dk_new hl hd (rel.put k rv) dd')
  · subst ey eH
    cases (show u = Value.ref b from ry)
    obtain ⟨z, hd, xs, rel, dd⟩ := dt_of I.hok e
    have hz : xs.length <= sizeLine := by rw [<- Paired.length rel]; exact z
    have hl : (putK kvs k v).length <= sizeLine := by have := length_putK kvs k v; omega
    refine wpAny_setItem_heap (hsz := hz) (tupleKind_room_in1 hu) (key_of I.hok eb) dd fun h' dd' hs => h _ ?_
    obtain ⟨q, es, ep, hq, h2, h3, h4, _, h5⟩ := dd'
    refine d_write I (by rw [e]; exact True.intro) hs ⟨q, hq⟩ ⟨hl, hd, _, (rel.put k eb rv).keeps fun c ys ec => ?_, q, es, ep, hq, h2, h3, h4, h5⟩
    rw [upd_ne (ne_of ec e (fun z => nomatch z))]
    exact ec
end
section
variable {X : Cx} {pins : List (Addr × Obj)} {σ : St} {H : Hp} {s : Shared} {a : Addr} {kvs : List (Key × V)} {k : Key} {u : Value} {A : Around} {E : Value -> Shared -> Prop}
end
noncomputable def NoSl (i : Expr) : Prop := ∀ ov iv, subscripted i false ov iv = operate [ov, iv] (getItem ov iv)
theorem subD_of {prog : Program} {w : World} {A : Around} {E : Value -> Shared -> Prop} {s : Shared} {env : Env} {value slice : Expr} {pos : Pos} {T id : String} {Q : Value -> Shared -> Prop}
    (hl : typeLookup (.type T) "__getitem__" = pure (some (.builtin id))) (hs : NoSl slice)
    (h : wpAny (model prog w) A (eval value env) (fun o s₁ => wpAny (model prog w) A (eval slice env) (fun i s₂ => s₂.TypeIs o T /\ wpAny (model prog w) A (getItem o i) Q E s₂) E s₁) E s) :
    wpAny (model prog w) A (eval (.Subscript value slice pos) env) Q E s := by
  refine Subscript_ (wpAny_mono h (fun o s₁ h₁ => wpAny_mono h₁ (fun i s₂ h₂ => ?_) fun _ _ x => x) fun _ _ x => x)
  obtain ⟨hT, h₂⟩ := h₂
  unfold subscriptTail
  refine wpAny_bind ?_
  rw [getitemInPython_of_ne hT.not_modules]
  refine wpAny_bind (wpAny_specialOf hT hl ?_)
  have fin : wpAny (model prog w) A (subscripted slice false o i) (fun r s₃ => wpAny (model prog w) A (letTemporaryGo value o r >>= fun _ => pure r) Q E s₃) E s₂ := by
    rw [hs o i]
    exact wpAny_operating (wpAny_mono h₂ (fun r s₃ h₃ => wpAny_bind (wpAny_letTemporaryGo (wpAny_pure h₃))) fun _ _ x => x)
  first
    | exact wpAny_pure (wpAny_bind fin)
    | exact wpAny_bind (wpAny_pure (wpAny_bind fin))
    | exact wpAny_bind fin
theorem dict_typeIs {X : Cx} {pins : List (Addr × Obj)} {σ : St} {H : Hp} {s : Shared} {a : Addr} {y : V} {o : Option V} (I : Inv X pins σ H s) (g : DGet H a y o) : s.TypeIs (.ref a) "dict" := by
  rcases g with ⟨kvs, k, e, _, _⟩ | ⟨kvs, k, b, e, _, _, _⟩
  · obtain ⟨_, _, vs, _, dd⟩ := dk_rd I.hok e
    exact dd.typeIs
  · obtain ⟨_, _, xs, _, dd⟩ := dt_rd I.hok e
    exact dd.typeIs
noncomputable def tDGet (td ty : TE) : TE := fun σ H Q => td σ H fun x H1 => ty σ H1 fun y H2 => ∃ a v, x = .ref a /\ DGet H2 a y (some v) /\ Q v H2
noncomputable def sDPut (td ty tv : TE) : TS := fun D σ H => tv σ H fun v H1 => td σ H1 fun x H2 => ty σ H2 fun y H3 => ∃ a H4, x = .ref a /\ DPut H3 a y v H4 /\ D.nx σ H4
section
variable {X : Cx} {o i e value : Expr} {pos pos' tpos : Pos} {td ty tv : TE}
theorem pe_dget (hu : X.A.units + 1 < cLine) (ho : PE X o td) (hi : PE X i ty) (hs : NoSl i) : PE X (.Subscript o i pos) (tDGet td ty) := by
  intro pins s σ H Q I h
  refine subD_of PySem.F.slot_dict_getitem.lookup hs (thn (ho pins s σ H _ I h) fun u s1 ⟨x, H1, I1, rx, q1⟩ => thn (hi pins s1 σ H1 _ I1 q1) fun iv s2 ⟨y, H2, I2, ry, a, v, ex, g, q2⟩ => ?_)
  subst ex
  obtain rfl : u = Value.ref a := rx
  exact ⟨dict_typeIs I2 g, d_getItem hu I2 g ry fun w' s3 I3 rw' => ⟨v, H2, I3, rw', q2⟩⟩
theorem ps_dput (hu : X.A.units + 1 < cLine) (ho : PE X o td) (hi : PE X i ty) (hv : PE X value tv) (hs : swapsWith value (some (.Subscript o i pos')) pos.line X.env = pure false) :
    PS X (.Assign [.Subscript o i pos'] value pos) (sDPut td ty tv) := by
  intro pins s σ H D I h
  refine wpAny_Assign_Subscript (thn (hv pins s σ H _ I h) fun r s1 ⟨v, H1, I1, rv, q1⟩ => thn (ho pins s1 σ H1 _ I1 q1) fun u s2 ⟨x, H2, I2, rx, q2⟩ => thn (hi pins s2 σ H2 _ I2 q2) fun iv s3 ⟨y, H3, I3, ry, a, H4, ex, g, q3⟩ => ?_) hs
  subst ex
  obtain rfl : u = Value.ref a := rx
  exact d_setItem hu I3 g ry rv fun s4 I4 => ⟨σ, H4, I4, q3⟩
end
theorem dt_empty {P : Program} {w : World} {H : Hp} (h : Heap) (hb : sysModules < h.objs.size) : ObjOk P w H (h.push { cls := .type "dict", data := .dict #[] }) h.objs.size (.dT []) :=
  ⟨Nat.zero_le _, beq_eq_false_iff_ne.mpr (Ne.symm (Nat.ne_of_lt hb)), [], .nil, _, #[], 0, Heap.get?_push_size _ rfl, ⟨rfl, rfl, rfl⟩, rfl, rfl, List.nodup_nil⟩
noncomputable def tDNewT : TE := fun _ H Q => ∀ p, H p = none -> Q (.ref p) (upd H p (.dT []))
section
variable {X : Cx} {pos : Pos}
theorem pe_dnewT : PE X (.Dict [] [] pos) tDNewT := fun pins s σ H Q I h =>
  wpAny_Dict_empty ⟨.ref s.heap.objs.size, _, I.laid (a := s.heap.objs.size) (o := .dT []) (t' := s.toks) (fun _ _ q => Heap.get?_push_of_some _ q) (Nat.le_refl _) (dt_empty s.heap I.big), rfl, h _ (I.hok.fresh (Nat.le_refl _))⟩
end
structure M1 (X : Cx) (o : Expr) (m : Str) (apos : Pos) (e : Expr) (cpos : Pos) : Prop where
  base : attributeBase o m X.env (eval o X.env) = eval o X.env
  few : ((backTo cpos (starEach [e] X.env)).all (fun x => !x.1) && (backToKw cpos (keywordEach [] X.env)).all (fun x => x.1.isSome)
    && decide (([e] : List Expr).length + ([] : List Keyword).length + (if ([] : List Keyword).isEmpty then 0 else 1) < 30)) = true
  line : (apos.endLine == cpos.line) = true
  trees : backTo cpos (starEach [e] X.env) = [(false, eval e X.env)]
structure M2 (X : Cx) (o : Expr) (m : Str) (apos : Pos) (e f : Expr) (cpos : Pos) : Prop where
  base : attributeBase o m X.env (eval o X.env) = eval o X.env
  few : ((backTo cpos (starEach [e, f] X.env)).all (fun x => !x.1) && (backToKw cpos (keywordEach [] X.env)).all (fun x => x.1.isSome)
    && decide (([e, f] : List Expr).length + ([] : List Keyword).length + (if ([] : List Keyword).isEmpty then 0 else 1) < 30)) = true
  line : (apos.endLine == cpos.line) = true
  trees : backTo cpos (starEach [e, f] X.env) = [(false, eval e X.env), (false, eval f X.env)]
section
variable {X : Cx} {pins : List (Addr × Obj)} {σ : St} {H : Hp} {s : Shared} {a : Addr} {y d : V} {u r : Value} {o : Option V} {A : Around} {E : Value -> Shared -> Prop}
end
section
variable {X : Cx} {o e f : Expr} {apos cpos : Pos} {td ty tx : TE}
end
section
variable {X : Cx} {pins : List (Addr × Obj)} {σ : St} {H : Hp} {s : Shared} {a : Addr} {kvs : List (Key × V)} {A : Around} {E : Value -> Shared -> Prop}
end
section
variable {X : Cx} {pins : List (Addr × Obj)} {σ : St} {H : Hp} {s : Shared} {a : Addr} {y : V} {u : Value} {A : Around} {E : Value -> Shared -> Prop}
end
end L2
namespace L2
open PySem PySem.Spec PyProof.Rows
section
variable {prog : Program} {w : World} {A : Around} {E : Value -> Shared -> Prop} {s : Shared}
end
section
variable {X : Cx}
end
end L2
set_option maxHeartbeats 1000000
namespace L2
open PySem PySem.Spec PyProof.Rows
section
variable {prog : Program} {w : World} {KK : Type} [DecidableEq KK] {knd : KeyKind prog w KK}
end
section
variable {X : Cx}
end
end L2
set_option maxHeartbeats 1000000
namespace L2.F2
open PySem PySem.Spec PyProof.Rows
end L2.F2
namespace L2
open PySem PySem.Spec PyProof.Rows
section
variable {prog : Program} {w : World} {A : Around} {E : Value -> Shared -> Prop} {s : Shared}
end
section
variable {X : Cx}
end
end L2
set_option maxHeartbeats 1000000
namespace L2
open PySem PySem.Spec PyProof.Rows
section
variable {prog : Program} {w : World} {A : Around} {E : Value -> Shared -> Prop} {s : Shared}
end
section
variable {X : Cx}
end
end L2
set_option maxHeartbeats 2000000
namespace L2
open PySem PySem.Spec PyProof.Rows
section
variable {prog : Program} {w : World} {A : Around} {E : Value -> Shared -> Prop} {s : Shared}
end
section
variable {X : Cx}
end
noncomputable def dd {α : Type} [DecidableEq α] : List α -> List α -> List α
  | σ, [] => σ
  | σ, x :: l => dd (if x ∈ σ then σ else σ ++ [x]) l
section
variable {prog : Program} {w : World} {A : Around} {E : Value -> Shared -> Prop} {s : Shared}
noncomputable abbrev SetT (prog : Program) (w : World) (h : Heap) (a : Addr) (l : List Str) : Prop := h.SetOf (strKind prog w) a (fun k => decide (k ∈ dd [] l)) (dd [] l).length
end
section
variable {prog : Program} {w : World} {A : Around} {E : Value -> Shared -> Prop} {s : Shared}
end
section
variable {X : Cx}
end
end L2
namespace L2
open PySem PySem.Spec PyProof.Rows
section
variable {prog : Program} {w : World} {A : Around} {E : Value -> Shared -> Prop} {s : Shared}
noncomputable def TuxAt (h : Heap) (k : Nat) (v : Value) (ns : List Int) : Prop := ∃ x ox us m is z t, v = .ref x /\ h.get? x = some ox /\ ox.cls = .type "tuple" /\ ox.data = .seq us m /\ us.toList = is ++ [.str z t] /\ IntsAre is ns /\ ns.length = k + 1
noncomputable def TuxsAt (h : Heap) (k : Nat) : List Value -> List (List Int) -> Prop
  | [], [] => True
  | v :: vs, n :: ns => TuxAt h k v n /\ TuxsAt h k vs ns
  | _, _ => False
end
section
variable {X : Cx}
noncomputable def TxsV (K : PySem.W.Frag) (H : Hp) (k : Nat) : List V -> List (List Int) -> Prop
  | [], [] => True
  | v :: vs, n :: ns => (∃ t z, v = .ref t /\ SqT K H t (n.map V.int ++ [.str z]) /\ n.length = k + 1) /\ TxsV K H k vs ns
  | _, _ => False
end
section
variable {X : Cx}
end
end L2
namespace L2
open PySem PySem.Spec PyProof.Rows
section
variable {X : Cx} {st : Stmt} {rest : List Stmt} {t u : TS}
end
end L2
namespace L2
open PySem PySem.Spec PyProof.Rows
section
variable {X : Cx}
theorem sl_tupK (K : PySem.W.Frag) (h : X.K = K) : SlR X (rSlT K) := by subst h; exact sl_tup
end
end L2
namespace L2
open PySem PySem.Spec PyProof.Rows
section
variable {X : Cx}
end
section
variable {prog : Program} {w : World} {A : Around} {E : Value -> Shared -> Prop} {s : Shared}
structure ZA (z TI TO i1 i2 : Addr) (f1 f2 : List Addr) : Prop where
  m1 : i1 ∈ f1
  m2 : i2 ∈ f2
  z1 : z ∉ f1
  z2 : z ∉ f2
  o1 : TO ∉ f1
  o2 : TO ∉ f2
  c1 : i1 ∉ f2
  c2 : i2 ∉ f1
  tz : TI ≠ z
  tt : TI ≠ TO
  t1 : TI ≠ i1
  t2 : TI ≠ i2
  oz : TO ≠ z
section
variable {z TI TO i1 i2 : Addr} {f1 f2 : List Addr} {n1 n2 i : Nat} {P1 P2 : Nat -> Value -> Prop} {S1 S2 : Nat -> Heap -> Prop} {a b : Value}
end
structure ZS (P : Program) (w : World) (K : PySem.W.Frag) (a it : Addr) (Sq : Hp -> List V -> Prop) (IT : Nat -> Heap -> Prop) : Prop where
  obj : ∀ i h, IT i h -> ∃ o, h.get? it = some o /\ ∀ v, o.data ≠ .cell v
  keep : ∀ i h h', IT i h -> (∀ o, h.get? it = some o -> h'.get? it = some o) -> IT i h'
  inj : ∀ (X : Cx), X.K = K -> ∀ (pins : List (Addr × Obj)) (s : Shared) (σ : St) (H : Hp), Inv X pins σ H s -> ∀ xs ys, Sq H xs -> Sq H ys -> xs = ys
  draws : ∀ (X : Cx), X.prog = P -> X.w = w -> X.K = K -> X.calm = true -> ∀ (pins : List (Addr × Obj)) (s : Shared) (σ : St) (H : Hp), Inv X pins σ H s -> ∀ xs, Sq H xs -> a ≠ it ->
    ∃ (its : List Value) (SS : Nat -> Heap -> Prop), Vals xs its /\ Draws P w X.A.in1 it [it, a] its.length (fun i v => its[i]? = some v) SS /\ (∀ i, IT i s.heap -> SS i s.heap) /\ ∀ i h, SS i h -> IT i h
end
section
variable {X : Cx} {elts : List Expr} {k : Nat} {pos' : Pos} {a b : Expr} {ta : TA} {p pos : Pos}
end
end L2
namespace L2
open PySem PySem.Spec PyProof.Rows
section
variable {X : Cx}
end
end L2
namespace L2
open PySem PySem.Spec PyProof.Rows PySem.MeetsSeq PySem.SeqAt
section
variable {X : Cx}
end
end L2
namespace L2
open PySem PySem.Spec PyProof.Rows
end L2
set_option maxHeartbeats 4000000
namespace XL
open PySem PySem.Spec PySem.Calls PyProof.Rows PySem.W Builtin Builtin.ObjectAttr
noncomputable abbrev VB : List Value := [.type "ValueError", .type "Exception", .type "BaseException", .type "object"]
noncomputable def xIn (K : Frag) (C : Addr) : Bool := match K.lookup C with
  | some ⟨.type "type", _, .cls cd, sl⟩ => (match cd.mro, sl.toList with
    | .ref C' :: bm, [_, _, _, _, some (.builtin n), _] => C' == C && n == "ValueError.__new__" && !cd.hasDel && cd.hasDict && tailIn K VB bm && nsOkIn K cd.ns
    | _, _ => false)
  | _ => false
structure XObj (K : Frag) (h : Heap) (C : Addr) : Prop where
  obj : ∃ bm N nm q bs sn sub ab col dd k0 k1 k2 k3 k5 mN, h.get? C = some (excClassObj nm q C N bs bm true sn sub ab col dd k0 k1 k2 k3 k5 "ValueError.__new__") /\ h.Ns N mN /\ OwnTail h VB bm /\ clsIn K C = some { name := nm, bases := bs, mro := .ref C :: bm, ns := N, qualname := q, hasDict := true, slotNames := sn, subclasses := sub, abstract := ab, collection := col, hasDel := false }
section
variable {prog : Program} {w : World} {A : Around} {E : Value -> Shared -> Prop} {h : Heap} {g : Array GenState} {d : Drawn} {t : Nat} {os : OsState} {K : Frag} {C : Addr}
variable {x : Addr} {mA : Str -> Option Value} {name : Str} {v : Value}
end
end XL
set_option maxHeartbeats 4000000
namespace XL
open PySem PySem.Spec PySem.Calls PyProof.Rows PySem.W Builtin Builtin.ObjectAttr
structure XC (K : Frag) (C : Addr) : Prop where
  is : xIn K C = true
  ga : findIn K (.ref C) "__getattribute__" = some (some (.builtin "BaseException.__getattribute__"))
  gh : findIn K (.ref C) "__getattr__" = some none
  sa : findIn K (.ref C) "__setattr__" = some (some (.builtin "object.__setattr__"))
  cl : findIn K (.ref C) "__class__" = some (some (.builtin "object.__class__"))
  cg : specialIn K (.builtin "object.__class__") "__get__" = some (some (.builtin "getset_descriptor.__get__"))
  ct : takesIn K (.builtin "object.__class__") = some true
  ob : mroIn K C (.type "object") = some true
  kp : keepIn K (.ref C) = true
section
variable {prog : Program} {w : World} {A : Around} {E : Value -> Shared -> Prop} {h : Heap} {g : Array GenState} {d : Drawn} {t : Nat} {os : OsState} {K : Frag} {C x : Addr}
end
end XL
set_option maxHeartbeats 4000000
namespace XL
open PySem PySem.Spec PySem.Calls PyProof.Rows PySem.W
structure Kept (S ex : List Addr) (h h' : Heap) : Prop where
  keep : ∀ b o, b ∉ ex -> b ∉ S -> h.get? b = some o -> h'.get? b = some o
  slot : ∀ b o, b ∉ ex -> b ∈ S -> h.get? b = some o -> ∃ sl, h'.get? b = some { o with slots := sl }
section
variable {M : Model} {A : Around} {E : Value -> Shared -> Prop} {s : Shared} {base : Heap} {env : Env} {outer : List Env} {L e C : Addr} {dO : Option Addr}
end
end XL
set_option maxHeartbeats 4000000
namespace L2
open PySem PySem.Spec PyProof.Rows XL
noncomputable def excO (nw : Bool) (e C : Addr) (dO : Option Addr) : HO := .ext fun h => ∃ oe vs, h.get? e = some oe /\ oe.cls = .ref C /\ oe.dict = dO /\ oe.data = .fields vs /\ (nw = true -> vs[1]? = some .none /\ ∃ t0, vs[0]? = some (.ref t0))
noncomputable def xdO (d : Addr) (fs : List (Str × V)) : HO := .ext fun h => ∃ mA, h.Ns1 d mA /\ (∀ f, RelO (fs.lookup f) (mA f)) /\ PySem.Within mA (fs.map (·.1))
section
variable {P : Program} {w : World} {H H' H1 H2 : Hp} {h h' h0 h1 h2 : Heap} {a e : Addr} {o : HO} {fs ex S : List Addr}
end
section
variable {P : Program} {w : World} {K : PySem.W.Frag} {mg : Str -> Option Value} {base : Heap} {N : List Str} {qual : Str} {scope : Scope} {f : Addr} {cd : Value} {A : Around} {outer : List Env} {s : Shared} {H : Hp} {E : XK}
end
end L2
set_option maxHeartbeats 4000000
namespace L2
open PySem PySem.Spec PyProof.Rows XL
section
variable {X : Cx} {pins : List (Addr × Obj)} {σ : St} {H : Hp} {s : Shared} {a : Addr} {o : HO}
end
section
variable {X : Cx} {CX : CXT} {k : Nat} {f C : Addr} {fd : FuncData} {ps : List Str} {sp : Sp} {dvs : List V} {ds : List Value} {E : St -> XK} {x : Str} {p pos : Pos} {e : Expr} {es : List Expr} {ta te : TE} {t : TA}
end
section
variable {P : Program} {w : World} {K : PySem.W.Frag} {mg : Str -> Option Value} {base : Heap}
end
end L2
set_option maxHeartbeats 4000000
namespace L2
open PySem PySem.Spec PyProof.Rows XL
structure XInit (K : PySem.W.Frag) (C f : Addr) : Prop where
  c : XC K C
  init : PySem.W.findIn K (.ref C) "__init__" = some (some (.ref f))
  fn : PySem.W.isFn K (.ref f) = true
structure XBase (K : PySem.W.Frag) (M : Addr) : Prop where
  rd : PySem.W.readsIn K M (.type "type") = true
  ga : PySem.W.specialIn K (.ref M) "__getattribute__" = some (some (.builtin "type.__getattribute__"))
  fi : PySem.W.findCls K (.ref M) (.type "type") "__init__" = some (.val (.builtin "ValueError.__init__"))
section
variable {X : Cx} {k : Nat} {f C M : Addr} {fd : FuncData} {ps : List Str} {sp : Sp} {x : Str} {p pos apos : Pos} {e : Expr} {es : List Expr} {ta te tv : TE} {t : TA} {pins : List (Addr × Obj)} {σ : St} {H : Hp} {s : Shared}
end
end L2
set_option maxHeartbeats 4000000
namespace L2
open PySem PySem.Spec PyProof.Rows XL
section
variable {X : Cx} {pins pn : List (Addr × Obj)} {σ : St} {H : Hp} {s : Shared} {W : Value -> Shared -> Prop} {ev : Value}
end
section
variable {X : Cx} {M : Addr} {n : Nat} {mx nm : Str} {body suite : List Stmt} {b₀ : Stmt} {tb : (St -> XK) -> TS} {th : TS} {pos hpos mp : Pos} {pins : List (Addr × Obj)} {σ : St} {H : Hp} {s : Shared} {D : Ends}
end
end L2
set_option maxHeartbeats 4000000
namespace L2
open PySem PySem.Spec PyProof.Rows XL
structure Made (H H' : Hp) (e d : Addr) (C : Addr) (fs : List (Str × V)) : Prop where
  ne : H e = none
  nd : H d = none
  ap : d ≠ e
  at_ : H' e = some (excO true e C (some d))
  di : H' d = some (xdO d fs)
  old : ∀ b, b ≠ e -> b ≠ d -> H' b = H b
end L2
set_option maxHeartbeats 4000000
namespace L2
open PySem PySem.Spec PyProof.Rows XL
end L2
namespace PySem
end PySem
namespace L2
open PySem PySem.Spec PyProof.Rows
structure FnOkG (P : Program) (w : World) (K : PySem.W.Frag) (mg : Str -> Option Value) (base : Heap) (k : Nat) (f : Addr) (fd : FuncData) (ps : List Str) (sp : Sp) (pre : List Value -> Shared -> Prop) (post : Shared -> Prop) : Prop where
  len : ∀ vs H Q E, sp vs H Q E -> vs.length = ps.length
  run : ∀ (A : Around) (outer : List Env) (s : Shared) (H : Hp) (args : Args) (us : List Value) (vs : List V) (Q : VK) (E : XK), Room k A -> Env0 P w K mg base A outer s H -> BindsTo s fd args (ps.zip us) -> Vals vs us -> pre us s -> sp vs H Q E ->
    codeAny (model P w) A (.call (.ref f) args) (fun r s' => CR CX0 outer P w H s Q E r s' /\ post s') s
section
variable {P : Program} {w : World} {K : PySem.W.Frag} {mg : Str -> Option Value} {base : Heap}
end
end L2
namespace L2
open PySem PySem.Spec PyProof.Rows
end L2
namespace L2
open PySem PySem.Spec PyProof.Rows
noncomputable def TokIn (X : Cx) (x : Str) (s : Shared) : Prop := ∃ m z t, s.heap.Ns X.env.locals m /\ m x = some (.str z t) /\ t ≠ 0 /\ t < s.toks
section
variable {X : Cx}
end
end L2
namespace L2
open PySem PySem.Spec PyProof.Rows
structure TurnT (P : Program) (w : World) (K : PySem.W.Frag) (tg : Expr) (J : It) (fp : List Addr) (it : Addr) (tn : Nat -> Heap -> Prop) : Prop extends Turn P w K tg J fp it tn where
  itemT : ∀ (X : Cx), X.prog = P -> X.w = w -> X.K = K -> X.calm = true -> ∀ (i : Nat) (pins : List (Addr × Obj)) (s : Shared) (σ : St) (H : Hp) (E : Value -> Shared -> Prop), Inv X pins σ H s -> (∀ b ∈ fp, FpOk X pins H b) -> tn i s.heap -> J.go i H ->
    wpAny (model P w) X.A (pyNext (.ref it)) (fun r s1 => ∃ u, r = some u /\ (∃ z, u = .str z s.toks) /\ s1.toks = s.toks + 1 /\
      wpAny (model P w) X.A (letOwnedTupleGo tg (.ref it) u) (fun _ s2 => ∃ x H', Inv X pins σ H' s2 /\ RelV x u /\ J.yld i H x H' /\ tn (i + 1) s2.heap /\ ∀ b ∈ fp, H' b = none) E s1) E s
end L2
namespace L2
open PySem PySem.Spec PyProof.Rows
section
variable {X : Cx}
end
end L2
set_option maxHeartbeats 1000000
namespace L2.F3
open PySem PySem.Spec PyProof.Rows
end L2.F3
namespace L2
open PySem PySem.Spec PyProof.Rows
section
variable {prog : Program} {w : World} {A : Around} {E : Value -> Shared -> Prop} {s : Shared}
end
section
variable {X : Cx}
end
section
variable {P : Program} {w : World} {K : PySem.W.Frag} {mg : Str -> Option Value} {base : Heap}
end
end L2
namespace L2
open PySem PySem.Spec PyProof.Rows
section
variable {X : Cx}
end
end L2
namespace L2
open PySem PySem.Spec PyProof.Rows
structure ZT (P : Program) (w : World) (K : PySem.W.Frag) (fp : List Addr) (it : Addr) (Sq : Hp -> List V -> Prop) (IT : Nat -> Heap -> Prop) : Prop where
  obj : ∀ i h, IT i h -> ∃ o, h.get? it = some o /\ ∀ v, o.data ≠ .cell v
  keep : ∀ i h h', IT i h -> (∀ o, h.get? it = some o -> h'.get? it = some o) -> IT i h'
  inj : ∀ (X : Cx), X.K = K -> ∀ (pins : List (Addr × Obj)) (s : Shared) (σ : St) (H : Hp), Inv X pins σ H s -> ∀ xs ys, Sq H xs -> Sq H ys -> xs = ys
  draws : ∀ (X : Cx), X.prog = P -> X.w = w -> X.K = K -> X.calm = true -> ∀ (pins : List (Addr × Obj)) (s : Shared) (σ : St) (H : Hp), Inv X pins σ H s -> ∀ xs, Sq H xs ->
    ∃ (PP : Nat -> Value -> Prop) (SS : Nat -> Heap -> Prop), (∀ i x v, xs[i]? = some x -> PP i v -> RelV x v) /\ Draws P w X.A.in1 it fp xs.length PP SS /\ (∀ i, IT i s.heap -> SS i s.heap) /\ ∀ i h, SS i h -> IT i h
section
variable {X : Cx} {elts : List Expr} {k : Nat} {pos' : Pos} {a b : Expr} {ta : TA} {p pos : Pos}
end
end L2
set_option maxHeartbeats 1000000
namespace L2
open PySem PySem.Spec PyProof.Rows
section
variable {prog : Program} {w : World} {A : Around} {E : Value -> Shared -> Prop} {s : Shared} {KK : Type} [DecidableEq KK] {knd : PySem.KeyKind prog w KK}
end
section
variable {X : Cx}
end
end L2
namespace L2
open PySem PySem.Spec PyProof.Rows
section
variable {X : Cx}
end
end L2
set_option maxHeartbeats 4000000
namespace XL
open PySem PySem.Spec PySem.Calls PyProof.Rows PySem.W
section
variable {M : Model} {A : Around} {E : Value -> Shared -> Prop} {s : Shared} {base : Heap} {env env' : Env} {outer : List Env} {L e C : Addr} {dO : Option Addr}
end
end XL
set_option maxHeartbeats 4000000
namespace L2
open PySem PySem.Spec PyProof.Rows XL
section
variable {P : Program} {w : World} {K : PySem.W.Frag} {mg : Str -> Option Value} {base : Heap} {N : List Str} {qual : Str} {scope : Scope} {f : Addr} {cd : Value} {A : Around} {outer : List Env} {s : Shared} {H : Hp} {E : XK}
end
section
variable {X : Cx} {scope : Scope} {C : Addr} {Nc : List Str} {s0 : Shared} {H0 : Hp} {fp : List Addr} {pn pins : List (Addr × Obj)} {xe : Value -> Shared -> Prop} {σ : St} {H : Hp} {s : Shared}
end
end L2
set_option maxHeartbeats 1000000
namespace L2
open PySem PySem.Spec PyProof.Rows
section
variable {X : Cx}
end
end L2
namespace L2
open PySem PySem.Spec PyProof.Rows
section
variable {X : Cx}
end
end L2
namespace PySem
open Sem (wp)
section
variable {prog : Program} {w : World} {K : Type} [DecidableEq K] (knd : KeyKind prog w K)
noncomputable def IsPairKey (h : Heap) (p : K × List K) (a : Addr) : Prop := ∃ o v b n, h.get? a = some o /\ o.cls = .type "tuple" /\ o.data = .seq #[v, .ref b] n /\ knd.is p.1 v = true /\ IsTupleKey knd h p.2 b
variable {knd}
variable {A : Around} {E : Value -> Shared -> Prop} {s : Shared}
end
end PySem
namespace PySem
open Sem (wp)
namespace F
end F
section
variable {prog : Program} {w : World} {A : Around} {E : Value -> Shared -> Prop} {s : Shared}
end
section
variable {prog : Program} {w : World} {K : Type} [DecidableEq K] {knd : HeapKind prog w K} {A : Around} {E : Value -> Shared -> Prop} {s : Shared}
end
end PySem
namespace L2
open PySem PySem.Spec PyProof.Rows
noncomputable def KeyAt (H : Hp) (k : Key × List Key) (a : Addr) : Prop := ∃ b, H a = some (.tup [kV k.1, .ref b]) /\ H b = some (.tup (k.2.map kV))
section
variable {X : Cx} {o i : Expr} {pos : Pos} {td ty : TE}
structure PIt where
  t : Addr
  a : Addr
  k : Key × List Key
  n : Int
structure PItOk (H : Hp) (e : PIt) : Prop where
  tp : H e.t = some (.tup [.ref e.a, .int e.n])
  ky : KeyAt H e.k e.a
end
end L2
namespace L2.F2
open PySem PySem.Spec PyProof.Rows
end L2.F2
namespace L2
open PySem PySem.Spec PyProof.Rows
section
variable {prog : Program} {w : World} {A : Around} {E : Value -> Shared -> Prop} {s : Shared}
noncomputable def IsRevT (h : Heap) (it a : Addr) (i : Int) : Prop := ∃ o, h.get? it = some o /\ o.cls = .type "reversed" /\ o.data = .fields #[.ref a, rawInt i]
end
section
variable {X : Cx} {tg : Expr}
end
end L2
set_option maxHeartbeats 1000000
namespace L2
open PySem PySem.Spec PyProof.Rows
section
variable {X : Cx}
noncomputable def rJoinT (K : PySem.W.Frag) : V -> List V -> Hp -> VK -> Prop := fun x vs H Q => ∃ (p : Addr) (ls : List (List Nat)), x = .str (S []) /\ vs = [.ref p] /\ SqT K H p (ls.map fun l => V.str (S l)) /\ (ls.map List.length).sum <= 16777216 /\ Q (.str (S ls.flatten)) H
theorem mt_joinT (K : PySem.W.Frag) (h : X.K = K) : MtR X "str.join" (rJoinT K) := by
  subst h
  intro pins s σ H x xs v us Q I rx rv h
  obtain ⟨p, ls, rfl, rfl, hq, hz, q⟩ := h
  obtain ⟨t, rfl⟩ := rx
  obtain ⟨u, rfl, ru⟩ := vals1 rv
  cases ru
  obtain ⟨its, r, pl, _⟩ := I.tuple hq
  have e : (S []).length = 0 := rfl
  refine join_tuple pl (by simpa using strsAre_of r) ?_ fun t' k => ?_
  · rw [e, Nat.mul_zero, Nat.add_zero, List.map_map]
    have e2 : (Str.length ∘ S) = List.length := by funext l; exact S_len l
    have e3 : ((fun x : Str => x.length) ∘ S) = List.length := by funext l; exact S_len l
    first | (rw [e2]; exact hz) | (rw [e3]; exact hz)
  · exact ⟨.str (S ls.flatten), H, I.tok _, ⟨t', congrArg (fun z => Value.str z t') (join_S ls)⟩, q⟩
end
end L2
namespace L2
open PySem PySem.Spec PyProof.Rows PySem.W
section
noncomputable def Ev (lt : Nat -> Nat -> Bool) (n : Nat) {α : Type} : KasT α -> (α -> Prop) -> Prop
  | .ret a, Q => Q a
  | .ask i j k, Q => i < n /\ j < n /\ Ev lt n (k (lt i j)) Q
theorem Ev.bind {lt : Nat -> Nat -> Bool} {n : Nat} {α β : Type} {f : α -> KasT β} {Q : β -> Prop} : ∀ {t : KasT α}, Ev lt n t (fun a => Ev lt n (f a) Q) -> Ev lt n (t.bind f) Q
  | .ret _, h => h
  | .ask _ _ _, ⟨a, b, h⟩ => ⟨a, b, Ev.bind h⟩
theorem Ev.wp {lt : Nat -> Nat -> Bool} {n : Nat} {α : Type} {cmp : Nat -> Nat -> (Bool -> Shared -> Prop) -> Shared -> Prop} {s : Shared} (hc : ∀ i j, i < n -> j < n -> ∀ C : Bool -> Shared -> Prop, C (lt i j) s -> cmp i j C s) {Q : α -> Prop} {G : α -> Shared -> Prop} (hq : ∀ a, Q a -> G a s) : ∀ {t : KasT α}, Ev lt n t Q -> t.kasWp cmp G s
  | .ret a, h => hq a h
  | .ask i j k, ⟨a, b, h⟩ => hc i j a b _ (Ev.wp hc hq h)
structure Tot (lt : Nat -> Nat -> Bool) (n : Nat) : Prop where
  tr : ∀ a b c, lt b a = false -> lt c b = false -> lt c a = false
  sm : ∀ a b, lt a b = true -> lt b a = false
  tt : ∀ a b, a < n -> b < n -> a ≠ b -> lt a b = false -> lt b a = true
noncomputable def Pm (p : Array Nat) (n : Nat) : Prop := p.Perm (List.range n).toArray
theorem gd (p : Array Nat) (i : Nat) : p.getD i 0 = p[i]?.getD 0 := by simp [Array.getD_eq_getD_getElem?]
theorem Pm.size {p : Array Nat} {n : Nat} (h : Pm p n) : p.size = n := by have := h.size_eq; simpa using this
theorem Pm.lt {p : Array Nat} {n : Nat} (h : Pm p n) (hn : 0 < n) (i : Nat) : p.getD i 0 < n := by
  rw [gd]
  by_cases hi : i < p.size
  · rw [Array.getElem?_eq_getElem hi]
    have m : p[i] ∈ p := Array.getElem_mem hi
    have := h.mem_iff.mp m
    simpa using this
  · rw [Array.getElem?_eq_none (by omega)]; exact hn
theorem Pm.ne {p : Array Nat} {n i j : Nat} (h : Pm p n) (hi : i < n) (hj : j < n) (hij : i ≠ j) : p.getD i 0 ≠ p.getD j 0 := by
  have hs := h.size
  have nd : p.toList.Nodup := (Array.perm_iff_toList_perm.mp h).nodup_iff.mpr (by simpa using List.nodup_range)
  have h1 : i < p.size := by omega
  have h2 : j < p.size := by omega
  rw [gd, gd, Array.getElem?_eq_getElem h1, Array.getElem?_eq_getElem h2]
  intro e
  have e2 : p.toList[i]'(by simpa using h1) = p.toList[j]'(by simpa using h2) := by simpa using e
  exact hij ((List.getElem_inj nd).mp e2)
section
variable {lt : Nat -> Nat -> Bool} {n : Nat}
noncomputable def UpTo (lt : Nat -> Nat -> Bool) (p : Array Nat) (k : Nat) : Prop := ∀ i j, i < j -> j < k -> lt (p.getD j 0) (p.getD i 0) = false
noncomputable def DnTo (lt : Nat -> Nat -> Bool) (p : Array Nat) (k : Nat) : Prop := ∀ i j, i < j -> j < k -> lt (p.getD i 0) (p.getD j 0) = false
theorem ev_asc (T : Tot lt n) (hn : 0 < n) {p : Array Nat} (hp : Pm p n) {Q : Nat -> Prop} : ∀ f m, 1 <= m -> UpTo lt p m -> (∀ m', m <= m' -> m' <= m + f -> UpTo lt p m' -> (m' < m + f -> lt (p.getD m' 0) (p.getD (m' - 1) 0) = true) -> Q m') -> Ev lt n (kas_asc p f m) Q
  | 0, m, _, up, q => q m (Nat.le_refl _) (Nat.le_refl _) up (fun h => absurd h (by omega))
  | f + 1, m, h1, up, q => by
    refine ⟨hp.lt hn _, hp.lt hn _, ?_⟩
    cases c : lt (p.getD m 0) (p.getD (m - 1) 0) with
    | true =>
      show Ev lt n (if true = true then _ else _) _
      rw [if_pos rfl]
      exact q m (Nat.le_refl _) (by omega) up (fun _ => c)
    | false =>
      show Ev lt n (if false = true then _ else _) _
      rw [if_neg Bool.false_ne_true]
      refine ev_asc T hn hp f (m + 1) (by omega) (fun i j hij hj => ?_) (fun m' a b u g => q m' (by omega) (by omega) u (fun z => g (by omega)))
      by_cases hjm : j < m
      · exact up i j hij hjm
      · have ejm : j = m := by omega
        subst ejm
        by_cases hi : i = j - 1
        · subst hi; exact c
        · exact T.tr _ _ _ (up i (j - 1) (by omega) (by omega)) c
theorem ev_desc (T : Tot lt n) (hn : 0 < n) {p : Array Nat} (hp : Pm p n) {Q : Array Nat × Nat × Nat -> Prop} : ∀ f m, 1 <= m -> m + f <= n -> DnTo lt p m -> (∀ m', m <= m' -> m' <= m + f -> DnTo lt p m' -> Q (p, m', 0)) -> Ev lt n (kas_desc f p m 0) Q
  | 0, m, _, _, up, q => q m (Nat.le_refl _) (Nat.le_refl _) up
  | f + 1, m, h1, hf, up, q => by
    refine ⟨hp.lt hn _, hp.lt hn _, ?_⟩
    cases c : lt (p.getD m 0) (p.getD (m - 1) 0) with
    | true =>
      show Ev lt n (if true = true then _ else _) _
      rw [if_pos rfl, if_neg (show ¬ ((0 : Nat) > 0) by decide)]
      refine ev_desc T hn hp f (m + 1) (by omega) (by omega) (fun i j hij hj => ?_) (fun m' a b u => q m' (by omega) (by omega) u)
      by_cases hjm : j < m
      · exact up i j hij hjm
      · have ejm : j = m := by omega
        subst ejm
        have c2 := T.sm _ _ c
        by_cases hi : i = j - 1
        · subst hi; exact c2
        · exact T.tr _ _ _ c2 (up i (j - 1) (by omega) (by omega))
    | false =>
      show Ev lt n (if false = true then _ else _) _
      rw [if_neg Bool.false_ne_true]
      refine ⟨hp.lt hn _, hp.lt hn _, ?_⟩
      rw [T.tt _ _ (hp.lt hn _) (hp.lt hn _) (hp.ne (by omega) (by omega) (by omega)) c]
      show Ev lt n (if true = true then _ else _) _
      rw [if_pos rfl]
      exact q m (Nat.le_refl _) (by omega) up
theorem rev_pm {p : Array Nat} (hp : Pm p n) (i j : Nat) : Pm (kas_rev p i j) n := (mirror_perm p i j _).trans hp
theorem rev_get {p : Array Nat} {m : Nat} (hm : m <= p.size) (k : Nat) : (kas_rev p 0 m).getD k 0 = if k < m then p.getD (m - 1 - k) 0 else p.getD k 0 := by
  rw [gd, gd, gd]
  unfold kas_rev
  rw [getElem?_mirror_all hm]
  by_cases h : k < m
  · rw [if_pos ⟨Nat.zero_le _, h⟩, if_pos h]
    congr 2
    omega
  · rw [if_neg (fun z => h z.2), if_neg h]
theorem ev_tail3 (T : Tot lt n) (hn : 0 < n) {p : Array Nat} (hp : Pm p n) {m : Nat} (h1 : 1 <= m) (hm : m <= n) (dn : DnTo lt p m) {Q : Nat × Array Nat -> Prop} (q : ∀ m' p', 1 <= m' -> m' <= n -> Pm p' n -> UpTo lt p' m' -> Q (m', p')) : Ev lt n (kas_tail3 m n p) Q := by
  refine Ev.bind (ev_asc T hn (rev_pm hp 0 m) (n - m) m h1 (fun i j hij hj => ?_) (fun m' a b u _ => q m' _ (by omega) (by omega) (rev_pm hp 0 m) u))
  have hs := hp.size
  rw [rev_get (by omega), rev_get (by omega), if_pos hj, if_pos (by omega)]
  exact dn _ _ (by omega) (by omega)
theorem ev_count (T : Tot lt n) (hn : 0 < n) {p : Array Nat} (hp : Pm p n) {Q : Nat × Array Nat -> Prop} (q : ∀ m' p', 1 <= m' -> m' <= n -> Pm p' n -> UpTo lt p' m' -> Q (m', p')) : Ev lt n (kas_count n p) Q := by
  refine Ev.bind (ev_asc T hn hp (n - 1) 1 (Nat.le_refl _) (fun i j hij hj => absurd hj (by omega)) (fun m a b u g => ?_))
  by_cases e : m = n
  · rw [if_pos (by simpa using e)]
    exact q m p a (by omega) hp u
  · rw [if_neg (by simpa using e)]
    have hlt := g (by omega)
    by_cases h1 : m > 1
    · rw [if_pos h1]
      refine ⟨hp.lt hn _, hp.lt hn _, ?_⟩
      rw [T.tt _ _ (hp.lt hn _) (hp.lt hn _) (hp.ne (by omega) hn (by omega)) (u 0 (m - 1) (by omega) (by omega))]
      show Ev lt n (if true = true then _ else _) _
      rw [if_pos rfl]
      exact q m p a (by omega) hp u
    · rw [if_neg h1]
      have em : m = 1 := by omega
      subst em
      refine Ev.bind (ev_desc T hn hp (n - (1 + 1)) (1 + 1) (by omega) (by omega) (fun i j hij hj => ?_) (fun m' c d dn => ?_))
      · have ei : i = 0 := by omega
        have ej : j = 1 := by omega
        subst ei ej
        exact T.sm _ _ hlt
      · rw [if_neg (show ¬ ((0 : Nat) > 0) by decide)]
        exact ev_tail3 T hn hp (by omega) (by omega) dn q
theorem ev_place (T : Tot lt n) (hn : 0 < n) {p : Array Nat} (hp : Pm p n) {k : Nat} (up : UpTo lt p k) {Q : Nat -> Prop} : ∀ f l r, l <= r -> r <= k -> r - l <= f -> (∀ i, i < l -> lt (p.getD k 0) (p.getD i 0) = false) -> (∀ i, r <= i -> i < k -> lt (p.getD i 0) (p.getD k 0) = false) -> (∀ l', l' <= k -> (∀ i, i < l' -> lt (p.getD k 0) (p.getD i 0) = false) -> (∀ i, l' <= i -> i < k -> lt (p.getD i 0) (p.getD k 0) = false) -> Q l') -> Ev lt n (kas_place p k f l r) Q
  | 0, l, r, h1, h2, hf, a, b, q => q l (by omega) a (fun i hi hk => b i (by omega) hk)
  | f + 1, l, r, h1, h2, hf, a, b, q => by
    unfold kas_place
    by_cases e : l ≥ r
    · rw [if_pos e]
      exact q l (by omega) a (fun i hi hk => b i (by omega) hk)
    · rw [if_neg e]
      refine ⟨hp.lt hn _, hp.lt hn _, ?_⟩
      cases c : lt (p.getD k 0) (p.getD ((l + r) / 2) 0) with
      | true =>
        show Ev lt n (if true = true then _ else _) _
        rw [if_pos rfl]
        refine ev_place T hn hp up f l _ (by omega) (by omega) (by omega) a (fun i hi hk => ?_) q
        have c2 := T.sm _ _ c
        by_cases ei : i = (l + r) / 2
        · rw [ei]; exact c2
        · exact T.tr _ _ _ c2 (up ((l + r) / 2) i (by omega) hk)
      | false =>
        show Ev lt n (if false = true then _ else _) _
        rw [if_neg Bool.false_ne_true]
        refine ev_place T hn hp up f _ r (by omega) h2 (by omega) (fun i hi => ?_) b q
        by_cases ei : i = (l + r) / 2
        · rw [ei]; exact c
        · exact T.tr _ _ _ (up i ((l + r) / 2) (by omega) (by omega)) c
theorem bub_get {p : Array Nat} {k l : Nat} (hk : k < p.size) (hl : l <= k) (i : Nat) : (bubble p k (k - l)).getD i 0 = if i = l then p.getD k 0 else if l < i /\ i <= k then p.getD (i - 1) 0 else p.getD i 0 := by
  rw [gd, getElem?_bubble hk _ (by omega), gd, gd, gd]
  have e : k - (k - l) = l := by omega
  rw [e]
  repeat' split
  all_goals rfl
theorem ev_bin (T : Tot lt n) (hn : 0 < n) {Q : Array Nat -> Prop} : ∀ f (p : Array Nat) k, Pm p n -> UpTo lt p k -> k + f <= n -> (∀ p', Pm p' n -> UpTo lt p' (k + f) -> Q p') -> Ev lt n (kas_bin f p k) Q
  | 0, p, k, hp, up, _, q => q p hp up
  | f + 1, p, k, hp, up, hk, q => by
    refine Ev.bind (ev_place T hn hp up k 0 k (Nat.zero_le _) (Nat.le_refl _) (by omega) (fun i h => absurd h (Nat.not_lt_zero _)) (fun i h1 h2 => absurd h1 (by omega)) (fun l hl a b => ?_))
    have hs := hp.size
    refine ev_bin T hn f _ (k + 1) ((bubble_perm p k _).trans hp) (fun i j hij hj => ?_) (by omega) (fun p' g u => q p' g (by rwa [show k + (f + 1) = k + 1 + f by omega]))
    rw [bub_get (by omega) hl, bub_get (by omega) hl]
    by_cases ej : j = l
    · rw [if_pos ej, if_neg (by omega), if_neg (by omega)]
      exact a i (by omega)
    · rw [if_neg ej]
      by_cases hjl : l < j
      · rw [if_pos ⟨hjl, by omega⟩]
        by_cases ei : i = l
        · rw [if_pos ei]; exact b (j - 1) (by omega) (by omega)
        · rw [if_neg ei]
          by_cases hil : l < i
          · rw [if_pos ⟨hil, by omega⟩]; exact up _ _ (by omega) (by omega)
          · rw [if_neg (by omega)]; exact up _ _ (by omega) (by omega)
      · rw [if_neg (by omega), if_neg (by omega), if_neg (by omega)]
        exact up _ _ hij (by omega)
theorem ev_sort (T : Tot lt n) (hn : 0 < n) : Ev lt n (kas_sort n) (fun p => Pm p n /\ UpTo lt p n) := by
  refine Ev.bind (ev_count T hn (Array.Perm.refl _) (fun m p h1 h2 hp up => ?_))
  have em : max m 1 = m := by omega
  show Ev lt n (if m < n then kas_bin (n - max m 1) p (max m 1) else .ret p) _
  rw [em]
  by_cases h : m < n
  · rw [if_pos h]
    refine ev_bin T hn _ p m hp up (by omega) (fun p' g u => ⟨g, ?_⟩)
    rwa [show m + (n - m) = n by omega] at u
  · rw [if_neg h]
    exact ⟨hp, by rwa [show m = n by omega] at up⟩
end
end
theorem pairLt_tr {a b c : Int × Int} (h1 : pairLt b a = false) (h2 : pairLt c b = false) : pairLt c a = false := by
  unfold pairLt at *
  simp only [Bool.or_eq_false_iff, Bool.and_eq_false_iff, decide_eq_false_iff_not] at *
  omega
theorem pairLt_sm {a b : Int × Int} (h : pairLt a b = true) : pairLt b a = false := by
  unfold pairLt at *
  simp only [Bool.or_eq_false_iff, Bool.and_eq_false_iff, decide_eq_false_iff_not, Bool.or_eq_true, Bool.and_eq_true, decide_eq_true_eq] at *
  omega
theorem pairLt_tt {a b : Int × Int} (ne : a ≠ b) (h : pairLt a b = false) : pairLt b a = true := by
  have ne2 : ¬ (a.1 = b.1 /\ a.2 = b.2) := fun z => ne (Prod.ext z.1 z.2)
  unfold pairLt at *
  simp only [Bool.or_eq_false_iff, Bool.and_eq_false_iff, decide_eq_false_iff_not, Bool.or_eq_true, Bool.and_eq_true, decide_eq_true_eq] at *
  omega
noncomputable def ltN (ns : List (Int × Int)) (i j : Nat) : Bool := pairLt (ns.getD i (0, 0)) (ns.getD j (0, 0))
theorem tot_ltN {ns : List (Int × Int)} (nd : ns.Nodup) : Tot (ltN ns) ns.length where
  tr _ _ _ h1 h2 := pairLt_tr h1 h2
  sm _ _ h := pairLt_sm h
  tt a b ha hb ne h := by
    refine pairLt_tt (fun e => ne ?_) h
    rw [List.getD_eq_getElem?_getD, List.getD_eq_getElem?_getD, List.getElem?_eq_getElem ha, List.getElem?_eq_getElem hb] at e
    exact (List.getElem_inj nd).mp e
section
variable {prog : Program} {w : World} {A : Around} {E : Value -> Shared -> Prop} {s : Shared}
theorem PairsAt.len {h : Heap} : ∀ {vs : List Value} {ns : List (Int × Int)}, PairsAt h vs ns -> ns.length = vs.length
  | [], [], _ => rfl
  | _ :: _, _ :: _, ⟨_, b⟩ => by rw [List.length_cons, List.length_cons, PairsAt.len b]
  | [], _ :: _, h => h.elim
  | _ :: _, [], h => h.elim
noncomputable def idxOut (vs : List Value) (idx : List Nat) : Array Value := List.toArray (idx.map fun i => vs.getD i Value.none)
noncomputable def IdxOk (ns : List (Int × Int)) (idx : List Nat) : Prop := idx.Perm (List.range ns.length) /\ (idx.map fun i => ns.getD i (0, 0)).Pairwise fun x y => pairLt y x = false
theorem list_sort_any {a : Addr} {vs : List Value} {ns : List (Int × Int)} {n : Nat} {P : PySem.Fin -> Shared -> Prop} (ho : s.heap.get? a = some (seqObj "list" vs.toArray n)) (hp : PairsAt s.heap vs ns) (hna : ∀ v ∈ vs, v ≠ .ref a) (nd : ns.Nodup) (h64 : vs.length < 64)
    (q : ∀ idx, IdxOk ns idx -> P (.done (.ret .none)) { s with heap := sortedHeap s.heap a vs (idxOut vs idx) }) : wpAny (model prog w) A (Builtin.«list.sort» ⟨[.ref a], []⟩) P E s := by
  rw [list_sort_plain]
  have ha : a < s.heap.objs.size := Heap.lt_size ho
  have hline : (64 : Nat) < sizeLine := by decide
  have hlen := hp.len
  refine wpAny_bind (listItems_at ho rfl (wpAny_bind (listUpdate_at ho rfl ?_ (by rw [List.size_toArray]; omega) (Nat.zero_le _))))
  obtain ⟨e1, ho1⟩ : ∃ e1, (s.heap.update a (Obj.mapSeq fun _ => #[])).get? a = some (seqObj "list" #[] e1) := ⟨_, get?_update_seq ho (fun _ => #[])⟩
  refine wpAny_bind (seqEpoch_at ho1 rfl (wpAny_bind (wpAny_newTuple (wpAny_bind (wpAny_newList (wpAny_holding ?_) (Nat.zero_le _))) (by show vs.length <= _; omega))))
  generalize hH : ((s.heap.update a (Obj.mapSeq fun _ => (#[] : Array Value))).push (seqObj "tuple" vs.toArray 0)).push (seqObj "list" #[] 0) = H2
  have ho6 : H2.get? a = some (seqObj "list" #[] e1) := by
    rw [<- hH]
    exact Heap.get?_push_of_some _ (Heap.get?_push_of_some _ ho1)
  have keep : ∀ b o, b ≠ a -> s.heap.get? b = some o -> H2.get? b = some o := fun b o hb e => by
    rw [<- hH]
    exact Heap.get?_push_of_some _ (Heap.get?_push_of_some _ ((Heap.get?_update_other s.heap _ (Ne.symm hb)).trans e))
  have hp2 : PairsAt H2 vs ns := by
    clear q h64 hH ho hlen nd
    revert ns
    induction vs with
    | nil => intro ns hp; cases ns with
      | nil => trivial
      | cons _ _ => exact hp.elim
    | cons v vs ih =>
      intro ns hp
      cases ns with
      | nil => exact hp.elim
      | cons n ns =>
        obtain ⟨⟨x, ox, t1, t2, m, rfl, g2, g3⟩, b⟩ := hp
        exact ⟨⟨x, ox, t1, t2, m, rfl, keep x ox (fun z => hna _ List.mem_cons_self (by rw [z])) g2, g3⟩, ih (fun u hu => hna u (List.mem_cons_of_mem _ hu)) b⟩
  have fin : ∀ (st : SortSt) (idx : List Nat), IdxOk ns idx -> (arrOf st).map (·.2) = idxOut vs idx -> failedOf st = none -> wpAny (model prog w) A (do { let touched := (<- seqEpoch a) != e1; Builtin.List.listUpdate (.ref a) (fun _ => (arrOf st).map (·.2)); if let some e := failedOf st then { rule "list.sort.comparison-raised"; throw e }; if touched then { rule "list.sort.modified"; raiseError "ValueError" "list modified during sort" }; ret .none }) P E { s with heap := H2 } := fun st idx hi e0 e2 => by
    rw [e0, e2]
    have hil : idx.length = vs.length := by have := hi.1.length_eq; rw [List.length_range] at this; omega
    refine wpAny_bind (seqEpoch_at ho6 rfl (wpAny_bind (listUpdate_at ho6 rfl ?_ (Nat.zero_le _) (by unfold idxOut; rw [List.size_toArray, List.length_map]; omega))))
    simp only [bne_self_eq_false, Bool.false_eq_true, if_false]
    refine wpAny_pure ?_
    have e3 : sortedHeap s.heap a vs (idxOut vs idx) = H2.update a (Obj.mapSeq fun _ => idxOut vs idx) := by unfold sortedHeap; rw [hH]
    have q := q idx hi
    rw [e3] at q
    exact q
  show wpAny (model prog w) A _ P E { s with heap := H2 }
  dsimp only
  by_cases h2 : vs.toArray.size < 2
  · rw [if_pos h2, if_pos h2]
    refine wpAny_bind (wpAny_pure ?_)
    rw [StateT.run_pure]
    refine wpAny_bind (wpAny_pure ?_)
    rw [List.size_toArray] at h2
    refine fin (SortSt.mk' general' (vs.toArray.zip vs.toArray) #[] 7 none) (List.range ns.length) ⟨List.Perm.refl _, ?_⟩ ?_ rfl
    · rw [hlen]
      have : vs.length = 0 \/ vs.length = 1 := by omega
      rcases this with e | e <;> rw [e] <;> simp [List.range_succ]
    · show (vs.toArray.zip vs.toArray).map (·.2) = _
      apply Array.toList_inj.mp
      have e4 : (vs.zip vs).map (fun x => x.2) = vs := zip_snd vs
      unfold idxOut
      simp
      rw [e4, hlen]
      refine List.ext_getElem (by simp) fun i g1 g2 => ?_
      simp
      rw [List.getElem?_eq_getElem g1]
      rfl
  · have h2' : 2 <= vs.length := by rw [List.size_toArray] at h2; omega
    rw [if_neg h2, if_neg h2]
    obtain ⟨fs, k1, k2, k3⟩ := hp2.tups
    refine wpAny_bind (PySem.W.kat_kind (s := { s with heap := H2 }) (T := .type "int") k1 (by omega) (fun v hv => by obtain ⟨i, t, rfl⟩ := k3 v hv; exact PySem.W.Looks.of_pure rfl) (by rfl) ?_)
    have T := tot_ltN nd
    rw [hlen] at T
    refine wpAny_bind (wpAny_mono (PySem.W.kat_run (Q := fun st' s' => s' = { s with heap := H2 } /\ ∃ idx, IdxOk ns idx /\ (arrOf st').map (·.2) = idxOut vs idx /\ failedOf st' = none) (G := fun p s' => s' = { s with heap := H2 } /\ Pm p vs.length /\ UpTo (ltN ns) p vs.length) rfl h2' h64 (fun p st' s' a1 a2 a3 a4 => ?_) (Ev.wp (fun i j hi hj C c => ?_) (fun p hq => ⟨rfl, hq⟩) (ev_sort T (by omega)))) ?_ fun _ _ e => e)
    · obtain ⟨rfl, pm, up⟩ := a4
      refine ⟨rfl, p.toList, ⟨?_, ?_⟩, PySem.W.kat_snds rfl a2, a3⟩
      · rw [hlen]
        simpa using Array.perm_iff_toList_perm.mp pm
      · rw [List.pairwise_map, List.pairwise_iff_getElem]
        intro i j hi hj hij
        have := up i j hij (by rw [<- pm.size]; simpa using hj)
        rw [gd, gd, Array.getElem?_eq_getElem (by simpa using hj), Array.getElem?_eq_getElem (by simpa using hi)] at this
        simpa [ltN] using this
    · obtain ⟨x, ex, px⟩ := hp2.get (i := i) hi
      obtain ⟨y, ey, py⟩ := hp2.get (i := j) hj
      refine pair_lt (s := { s with heap := H2 }) px py ?_
      have : ltN ns i j = pairLt x y := by unfold ltN; rw [List.getD_eq_getElem?_getD, List.getD_eq_getElem?_getD, ex, ey]; rfl
      rw [<- this]
      exact c
    · rintro ⟨⟨⟩, st'⟩ s' ⟨rfl, idx, g0, g1, g2⟩
      exact fin st' idx g0 g1 g2
theorem sorted_any {tp : Addr} {T : String} {o : Obj} {vs : List Value} {ns : List (Int × Int)} {n : Nat} {Q : Value -> Shared -> Prop} (hT : T = "list" \/ T = "tuple") (ho : s.heap.get? tp = some o) (hc : o.cls = .type T) (hd : o.data = .seq vs.toArray n) (hp : PairsAt s.heap vs ns)
    (nd : ns.Nodup) (h64 : vs.length < 64)
    (q : ∀ (h1 h' : Heap) (a : Addr) (e : Nat) (idx : List Nat), IdxOk ns idx -> (∀ b o, s.heap.get? b = some o -> h1.get? b = some o) -> (∀ b o, h1.get? b = some o -> h'.get? b = some o) -> a = h1.objs.size -> h'.get? a = some (seqObj "list" (idxOut vs idx) e) -> Q (.ref a) { s with heap := h' }) :
    wpAny (model prog w) A (call (.builtin "sorted") [.ref tp]) Q E s := by
  have hline : (64 : Nat) < sizeLine := by decide
  refine Calls.call_function_entry kind_sorted plain_sorted entry_sorted (args_sorted1 _) ?_
  unfold Builtin.«sorted»
  refine wpAny_bind (m := checkCount "sorted" 1 1 _) (wpAny_pure (wpAny_bind (wpAny_collect_seq tp hT ho hc hd (fun h1 k1 => ?_) (by rw [List.size_toArray]; omega))))
  refine wpAny_bind (wpAny_newList ?_ (by show vs.length <= _; omega))
  have hoL : (h1.push (seqObj "list" vs.toArray 0)).get? h1.objs.size = some (seqObj "list" vs.toArray 0) := Heap.get?_push_size _ rfl
  show wpAny _ _ _ _ _ { s with heap := h1.push (seqObj "list" vs.toArray 0) }
  have hp1 := hp.keep (h' := h1) k1
  have hp2 := hp1.keep (h' := h1.push (seqObj "list" vs.toArray 0)) fun b o e => Heap.get?_push_of_some _ e
  refine wpAny_bind (wpAny_holding (wpAny_call_entry slot_list_sort ⟨_, hoL, rfl⟩ entry_list_sort (list_sort_any (s := { s with heap := h1.push (seqObj "list" vs.toArray 0) }) hoL hp2 (hp1.ne (Nat.le_refl _)) nd h64 fun idx hi => ⟨_, rfl, ?_⟩) (args_list_sort _)))
  obtain ⟨e, he⟩ := sortedHeap_at (out := idxOut vs idx) hoL
  refine wpAny_pure ⟨_, rfl, q h1 _ _ e idx hi k1 (fun b o hb => ?_) rfl he⟩
  have hlt := Heap.lt_size hb
  rw [sortedHeap_old (Nat.ne_of_lt hlt) (by rw [size_push']; exact Nat.lt_succ_of_lt hlt)]
  exact Heap.get?_push_of_some _ hb
end
section
variable {X : Cx}
theorem PrsV.len {K : PySem.W.Frag} {H : Hp} : ∀ {vs : List V} {ns : List (Int × Int)}, PrsV K H vs ns -> ns.length = vs.length
  | [], [], _ => rfl
  | _ :: _, _ :: _, ⟨_, b⟩ => by rw [List.length_cons, List.length_cons, PrsV.len b]
  | [], _ :: _, h => h.elim
  | _ :: _, [], h => h.elim
theorem vals_idx {ys : List V} {us : List Value} (r : Vals ys us) : ∀ idx : List Nat, (∀ i ∈ idx, i < ys.length) -> Vals (idx.map fun i => ys.getD i .non) (idx.map fun i => us.getD i Value.none)
  | [], _ => .nil
  | i :: idx, h => by
    have hi := h i List.mem_cons_self
    refine .cons ?_ (vals_idx r idx fun j hj => h j (List.mem_cons_of_mem _ hj))
    obtain ⟨u, e, ru⟩ := r.get (List.getElem?_eq_getElem hi)
    show RelV (ys.getD i .non) (us.getD i Value.none)
    rw [List.getD_eq_getElem?_getD, List.getD_eq_getElem?_getD, e, List.getElem?_eq_getElem hi]
    exact ru
noncomputable def rSortA (K : PySem.W.Frag) : List V -> Hp -> VK -> Prop := fun xs H Q => ∃ p ys ns, xs = [.ref p] /\ (SqL K H p ys \/ SqT K H p ys) /\ PrsV K H ys ns /\ ns.Nodup /\ ys.length < 64 /\ ∀ q idx, IdxOk ns idx -> H q = none -> Q (.ref q) (upd H q (.lst (idx.map fun i => ys.getD i .non)))
theorem call_sortedA (K : PySem.W.Frag) (h : X.K = K) : CallR X (.builtin "sorted") (rSortA K) := by
  subst h
  intro pins s σ H xs us Q I r h
  obtain ⟨p, ys, ns, rfl, hq, hv, nd, hn, q⟩ := h
  obtain ⟨u, rfl, ru⟩ := vals1 r
  cases ru
  have h64 : (64 : Nat) < sizeLine := by decide
  have hnl := hv.len
  have fin : ∀ its : List Value, Vals ys its -> ∀ (h1 h' : Heap) (a : Addr) (e : Nat) (idx : List Nat), IdxOk ns idx -> (∀ b o, s.heap.get? b = some o -> h1.get? b = some o) -> (∀ b o, h1.get? b = some o -> h'.get? b = some o) -> a = h1.objs.size -> h'.get? a = some (seqObj "list" (idxOut its idx) e) -> EP X pins σ Q (.ref a) { s with heap := h' } := fun its rv h1 h' a e idx hi k1 k2 ea he => by
    have I1 : Inv X pins σ H { s with heap := h1 } := I.kept (t' := s.toks) k1
    have hil : idx.length = ys.length := by have := hi.1.length_eq; rw [List.length_range] at this; omega
    have rv2 := vals_idx rv idx fun i hi2 => by have := hi.1.mem_iff.mp hi2; rw [List.mem_range] at this; omega
    have I2 : Inv X pins σ (upd H a (.lst (idx.map fun i => ys.getD i .non))) { s with heap := h' } := I1.laid (t' := s.toks) (a := a) (o := .lst (idx.map fun i => ys.getD i .non)) k2 (by rw [ea]; exact Nat.le_refl _) ⟨by rw [List.length_map]; omega, _, e, rv2, by simpa [seqObj, idxOut] using he⟩
    exact ⟨.ref a, _, I2, rfl, q _ idx hi (I1.hok.fresh (by rw [ea]; exact Nat.le_refl _))⟩
  rcases hq with hq | hq
  · obtain ⟨its, rv, pl, hz⟩ := I.list hq
    obtain ⟨o, ho, hc, m, hd⟩ := pl.isList
    exact sorted_any (.inl rfl) ho hc hd (hv.at I rv) nd (by rw [<- rv.length]; exact hn) (fin its rv)
  · obtain ⟨its, rv, pl, hz⟩ := I.tuple hq
    obtain ⟨o, ho, hc, m, hd⟩ := pl
    exact sorted_any (.inr rfl) ho hc hd (hv.at I rv) nd (by rw [<- rv.length]; exact hn) (fin its rv)
end
end L2
namespace L2
open PySem PySem.Spec PyProof.Rows
section
variable {X : Cx} {tg : Expr}
end
section
variable {X : Cx} {tg : Expr}
end
end L2
namespace L2
open PySem PySem.Spec PyProof.Rows PySem.MeetsSeq PySem.SeqAt
section
variable {X : Cx}
end
end L2
namespace L2
open PySem PySem.Spec PyProof.Rows
noncomputable abbrev IsZipF (h : Heap) (z TI TO : Addr) (f0 : Value) (f : Bool) : Prop :=
  h.get? z = some { cls := .type "zip", dict := none, data := .fields #[f0, .bool f, .bool false, .ref TI, .ref TO], slots := #[] }
noncomputable def ZSt (h : Heap) (z TI TO : Addr) : Prop := ∃ f0 f, IsZipF h z TI TO f0 f /\ (f0 = .none \/ ∃ a : Nat, f0 = rawInt a)
section
variable {prog : Program} {w : World} {A : Around} {E : Value -> Shared -> Prop} {s : Shared}
variable {z TI TO i1 i2 : Addr} {f1 f2 : List Addr} {n1 n2 i : Nat} {P1 P2 : Nat -> Value -> Prop} {S1 S2 : Nat -> Heap -> Prop} {a b : Value}
end
section
variable {X : Cx} {nx : Str} {pos' : Pos} {a b : Expr} {ta : TA} {p pos : Pos}
end
end L2
namespace L2
open PySem PySem.Spec PyProof.Rows HT
section
variable {prog : Program} {w : World} {A : Around} {E : Value -> Shared -> Prop} {s : Shared}
theorem cat_tup0 {t b : Addr} {ws : List Value} {Q : Value -> Shared -> Prop} (ht : IsTup s.heap t #[]) (hb : IsTup s.heap b ws.toArray) (h : Q (.ref b) s) : wpAny (model prog w) A (binaryOp .Add (.ref t) (.ref b)) Q E s := by
  obtain ⟨⟨cls, dd, data, sl⟩, ho, hc, n, hd⟩ := id ht
  obtain ⟨⟨cls2, dd2, data2, sl2⟩, ho2, hc2, n2, hd2⟩ := id hb
  simp only at hc hd hc2 hd2
  subst hc hd hc2 hd2
  exact concat_meets ⟨_, ho, rfl⟩ ⟨_, ho2, rfl⟩ noFill_tuple_add seq_tuple_add PySem.F.slot_tuple_add PySem.F.entry_tuple_add (PySem.F.args_tuple_add_2 _ _)
    (tuple_addW0 t b #[] ws.toArray n n2 dd dd2 sl sl2 (by simp)) ⟨ho, ho2, h⟩
theorem getItem_tuple_all {t sl : Addr} {items : Array Value} {vl vu : Value} {lo hi : Option Int} {Q : Value -> Shared -> Prop} (ht : IsTup s.heap t items) (hs : s.heap.IsSliceOf sl vl vu .none) (pl : IsPart vl lo) (pu : IsPart vu hi)
    (hw : sIx items.size 0 lo = 0 /\ sIx items.size items.size hi = items.size) (h : Q (.ref t) s) : wpAny (model prog w) A (getItem (.ref t) (.ref sl)) Q E s := by
  obtain ⟨os, hos, hcs, hds⟩ := id hs
  have hTs : s.TypeIs (.ref sl) "slice" := ⟨os, hos, hcs⟩
  unfold getItem
  try with_reducible refine wpAny_holding ?_
  first | refine wpAny_bind (wpAny_pure ?_) | skip
  refine wpAny_bind (wpAny_sequenceKey ht.typeIs (by decide) ?_)
  refine wpAny_bind (wpAny_callSpecial?_slot (name := Str.ofString "__getitem__") ht.typeIs PyProof.Rows.slot_tuple_getitem
    (wpAny_call_entry PyProof.Rows.slot_tuple_getitem ht.typeIs entry_tuple_getitem ?_ (args_tuple_getitem _ _)))
  show wpAny _ _ (Builtin.Tuple.tupleItemsOf (.ref t) >>= _) _ _ s
  refine wpAny_bind (tupleItemsOf_ ht ?_)
  refine wpAny_bind (wpAny_typeOf hTs ?_)
  rw [if_pos (by decide)]
  refine wpAny_bind (sliceApplied_gen hs pl pu ?_)
  show wpAny _ _ (if (((sIx items.size 0 lo : Nat) : Int) == 0 && (1 : Int) == 1 && (sIx items.size items.size hi - sIx items.size 0 lo) == items.size) = true then _ else _) _ _ s
  rw [if_pos (by rw [hw.1, hw.2]; simp)]
  show wpAny _ _ (Builtin.Tuple.tupleIsExact (.ref t) >>= _) _ _ s
  refine wpAny_bind (m := Builtin.Tuple.tupleIsExact (.ref t)) (wpAny_bind (wpAny_typeOf ht.typeIs (wpAny_pure ?_)))
  show wpAny _ _ (if true = true then _ else _) _ _ s
  rw [if_pos rfl]
  exact wpAny_bind (wpAny_rule (wpAny_pure ⟨_, rfl, wpAny_pure h⟩))
end
section
variable {X : Cx}
noncomputable def rCatA : R2 := fun x y H Q => ∃ a b xs ys, x = .ref a /\ y = .ref b /\ H a = some (.tup xs) /\ H b = some (.tup ys) /\ xs.length + ys.length <= sizeLine /\
  ∀ p H', (∀ c o, H c = some o -> H' c = some o) -> H' p = some (.tup (xs ++ ys)) -> Q (.ref p) H'
theorem op_catA : OpR X (binaryOp .Add) rCatA := by
  intro pins s σ H x y v u Q I rx ry h
  obtain ⟨a, b, xs, ys, rfl, rfl, ha, hb, hz, q⟩ := h
  cases rx
  cases ry
  obtain ⟨its, r1, p1, _⟩ := I.tuple (SqT.of ha)
  obtain ⟨its2, r2, p2, _⟩ := I.tuple (SqT.of hb)
  by_cases hx : xs = []
  · subst hx
    cases r1
    exact cat_tup0 p1 p2 ⟨.ref b, H, I, rfl, q b H (fun _ _ e => e) hb⟩
  refine HT.cat_tup p1 p2 (fun z => hx (r1.nil_iff.mp z)) (fun z => ⟨.ref a, H, I, rfl, ?_⟩) (fun z => ?_) (by rw [<- r1.length, <- r2.length]; exact hz)
  · have e := r2.nil_iff.mp z
    exact q a H (fun _ _ e => e) (by rw [e, List.append_nil]; exact ha)
  · have n := I.hok.fresh (Nat.le_refl s.heap.objs.size)
    refine ⟨.ref s.heap.objs.size, _, I.laid (t' := s.toks) (o := .tup (xs ++ ys)) (fun b ob q => Heap.get?_push_of_some _ q) (Nat.le_refl _) ?_, rfl, q _ _ (fun c o e => ?_) upd_same⟩
    · exact ⟨by rw [List.length_append]; exact hz, _, r1.append r2, IsTup.new _ _⟩
    · rw [upd_ne (fun z => by rw [z, n] at e; cases e)]; exact e
noncomputable def rSlA : V -> Option Int -> Option Int -> Hp -> VK -> Prop := fun x lo hi H Q => ∃ a xs, x = .ref a /\ H a = some (.tup xs) /\
  ∀ p H', (∀ c o, H c = some o -> H' c = some o) -> H' p = some (.tup (cutV xs lo hi)) -> Q (.ref p) H'
theorem sl_tupA : SlR X rSlA := by
  intro pins s σ H x v vl vu lo hi sl Q I rx hs pl pu h
  obtain ⟨a, xs, rfl, hx, q⟩ := h
  cases rx
  obtain ⟨its, r, ht, hz⟩ := I.tuple (SqT.of hx)
  have hlen : its.toArray.size = xs.length := by rw [List.size_toArray]; exact r.length.symm
  refine ⟨"tuple", _, PyProof.Rows.slot_tuple_getitem.lookup, ht.typeIs, ?_⟩
  by_cases hw : HT.sIx xs.length 0 lo = 0 /\ HT.sIx xs.length xs.length hi = xs.length
  · refine getItem_tuple_all ht hs pl pu (by rw [hlen]; exact hw) ⟨.ref a, H, I, rfl, q a H (fun _ _ e => e) ?_⟩
    unfold cutV
    rw [hw.1, hw.2, List.drop_zero, Nat.sub_zero, List.take_length]
    exact hx
  refine HT.getItem_tuple_cut ht hs pl pu (by rw [hlen]; exact hw) ?_ (by rw [hlen]; exact hz)
  rw [hlen]
  have n := I.hok.fresh (Nat.le_refl s.heap.objs.size)
  refine ⟨.ref s.heap.objs.size, _, I.laid (t' := s.toks) (o := .tup (cutV xs lo hi)) (fun b ob q => Heap.get?_push_of_some _ q) (Nat.le_refl _) ?_, rfl, q _ _ (fun c o e => ?_) upd_same⟩
  · exact ⟨Nat.le_trans (cutV_length xs lo hi) hz, _, (r.drop (HT.sIx xs.length 0 lo)).take (HT.sIx xs.length xs.length hi - HT.sIx xs.length 0 lo), IsTup.new _ _⟩
  · rw [upd_ne (fun z => by rw [z, n] at e; cases e)]; exact e
end
end L2
namespace L2
open PySem PySem.Spec PyProof.Rows
structure KD (K : PySem.W.Frag) (P : Program) (w : World) (a : Addr) (kvs : List (Key × V)) : Prop where
  sm : (a == sysModules) = false
  ok : ∃ vs ep, KV kvs vs /\ ∀ h : Heap, K.In h -> h.DictAt (mixKind P w) a vs ep
section
variable {X : Cx} {o i e value tg : Expr} {pos pos' tpos : Pos} {td ty tv : TE} (K : PySem.W.Frag) (P : Program) (w : World)
end
end L2
namespace L2
open PySem PySem.Spec PyProof.Rows
section
variable {X : Cx}
end
end L2
namespace L2
open PySem PySem.Spec PyProof.Rows
section
variable {X : Cx}
end
end L2
namespace L2
open PySem PySem.Spec PyProof.Rows
noncomputable def KEL (w : World) : List (Key × V) -> List DictEntry -> Prop
  | [], [] => True
  | (k, v) :: r, e :: es => (∃ x t, k = Sum.inr x /\ e.key = .str x t /\ e.hash = PyData.keyHash w.params x) /\ RelV v e.val /\ KEL w r es
  | _, _ => False
noncomputable def KE (kvs : List (Key × V)) (w : World) (es : Array DictEntry) : Prop := KEL w kvs es.toList
end L2
namespace L2
open PySem PySem.Spec PyProof.Rows
section
variable {X : Cx} {tg : Expr}
end
end L2
set_option maxHeartbeats 1000000
namespace L2
open PySem PySem.Spec PyProof.Rows
section
variable {prog : Program} {w : World} {A : Around} {E : Value -> Shared -> Prop} {s : Shared}
end
section
variable {X : Cx} {a b : Expr} {ta : TA} {p p2 pos pos2 : Pos}
end
end L2
set_option maxHeartbeats 1000000
namespace L2
open PySem PySem.Spec PyProof.Rows
noncomputable def gal : Bool -> Keyed -> Array Keyed -> Nat -> Nat -> Nat -> StateT SortSt Sem (Option Nat) := sortPriv% PySem.Builtin.gallop
noncomputable def mLo : Array Keyed -> Array Keyed -> StateT SortSt Sem (Array Keyed) := sortPriv% PySem.Builtin.mergeLo
noncomputable def mHi : Array Keyed -> Array Keyed -> StateT SortSt Sem (Array Keyed) := sortPriv% PySem.Builtin.mergeHi
structure PB (a₀ : Array Keyed) (st : SortSt) : Prop where
  perm : (arrOf st).Perm a₀
  kind : kindOf st = oneType'
  failed : failedOf st = none
section
variable {prog : Program} {w : World} {A : Around} {E : Value -> Shared -> Prop} {s : Shared} {κ : KeyKind} {a₀ : Array Keyed}
theorem wpS_el {st : SortSt} {arr : Array Keyed} {i : Nat} {Q : Keyed -> SortSt -> Prop} (hi : i < arr.size) (h : ∀ p, p ∈ arr.toList -> arr[i]? = some p -> Q p st) : wpS (model prog w) A E s (elem' arr i) Q st := by
  have e : arr[i]? = some arr[i] := getElem?_pos arr i hi
  rw [elem'_eq, e]
  exact wpS_pure (h _ (by simp) e)
end
theorem wpS_ite {M : Model} {A : Around} {E : Value -> Shared -> Prop} {s : Shared} {σ α : Type} {c : Prop} [Decidable c] {m1 m2 : StateT σ Sem α} {Q : α -> σ -> Prop} {st : σ} (h1 : c -> wpS M A E s m1 Q st) (h2 : ¬ c -> wpS M A E s m2 Q st) : wpS M A E s (if c then m1 else m2) Q st := by
  by_cases g : c
  · rw [if_pos g]; exact h1 g
  · rw [if_neg g]; exact h2 g
noncomputable def sg (st : SortSt) (g : Nat) : SortSt := SortSt.mk' (kindOf st) (arrOf st) (pendingOf st) g (failedOf st)
noncomputable def IsG (st st' : SortSt) : Prop := ∃ g, st' = sg st g
theorem IsG.refl (st : SortSt) : IsG st st := ⟨gallopOf st, rfl⟩
theorem IsG.set {st st' : SortSt} (h : IsG st st') (g : Nat) : IsG st (sg st' g) := by
  obtain ⟨g0, rfl⟩ := h
  exact ⟨g, rfl⟩
noncomputable def Mg (a b out : Array Keyed) (ia ib : Nat) : Prop := out.toList.Perm (a.toList.take ia ++ b.toList.take ib)
theorem tk_snoc {α : Type} {l : List α} {i : Nat} {p : α} (h : l[i]? = some p) : l.take (i + 1) = l.take i ++ [p] := by
  have := List.getElem?_eq_some_iff.mp h
  rw [List.take_succ_eq_append_getElem this.1, this.2]
theorem dp_cons {α : Type} {l : List α} {i : Nat} {p : α} (h : l[i]? = some p) : l.drop i = p :: l.drop (i + 1) := by
  have := List.getElem?_eq_some_iff.mp h
  rw [List.drop_eq_getElem_cons this.1, this.2]
theorem tk_ext {α : Type} (l : List α) (i j : Nat) (h : i <= j) : l.take j = l.take i ++ (l.drop i).take (j - i) := by
  have : j = i + (j - i) := by omega
  conv => lhs; rw [this, List.take_add]
theorem dp_ext {α : Type} (l : List α) (i j : Nat) (h : i <= j) : l.drop i = (l.drop i).take (j - i) ++ l.drop j := by
  conv => lhs; rw [<- List.take_append_drop (j - i) (l.drop i), List.drop_drop, show i + (j - i) = j by omega]
theorem ext_list {α : Type} (a : Array α) (i j : Nat) : (a.extract i j).toList = (a.toList.drop i).take (j - i) := by simp [List.extract]
theorem Mg.end1 {a b out : Array Keyed} {ia ib : Nat} (h : Mg a b out ia ib) : (out ++ a.extract ia ++ b.extract ib).toList.Perm (a.toList ++ b.toList) := by
  rw [Array.toList_append, Array.toList_append, ext_list, ext_list, List.take_of_length_le (by simp), List.take_of_length_le (by simp)]
  refine ((h.append_right _).append_right _).trans ?_
  conv => rhs; rw [<- List.take_append_drop ia a.toList, <- List.take_append_drop ib b.toList]
  rw [List.append_assoc, List.append_assoc, List.append_assoc]
  refine List.Perm.append_left _ ?_
  rw [<- List.append_assoc, <- List.append_assoc]
  exact List.Perm.append_right _ List.perm_append_comm
theorem Mg.end2 {a b out : Array Keyed} {ia ib : Nat} (h : Mg a b out ia ib) : (out ++ b.extract ib ++ a.extract ia).toList.Perm (a.toList ++ b.toList) := by
  refine List.Perm.trans ?_ h.end1
  simp only [Array.toList_append, List.append_assoc]
  exact List.Perm.append_left _ List.perm_append_comm
theorem Mg.pushB {a b out : Array Keyed} {ia ib : Nat} {p : Keyed} (h : Mg a b out ia ib) (hp : b[ib]? = some p) : Mg a b (out.push p) ia (ib + 1) := by
  unfold Mg
  rw [Array.toList_push, tk_snoc (l := b.toList) (by simpa using hp), <- List.append_assoc]
  exact h.append_right _
theorem Mg.pushA {a b out : Array Keyed} {ia ib : Nat} {p : Keyed} (h : Mg a b out ia ib) (hp : a[ia]? = some p) : Mg a b (out.push p) (ia + 1) ib := by
  unfold Mg
  rw [Array.toList_push, tk_snoc (l := a.toList) (by simpa using hp), List.append_assoc]
  refine (h.append_right _).trans ?_
  rw [List.append_assoc]
  exact List.Perm.append_left _ List.perm_append_comm
theorem Mg.appB {a b out : Array Keyed} {ia ib k : Nat} (h : Mg a b out ia ib) : Mg a b (out ++ b.extract ib (ib + k)) ia (ib + k) := by
  unfold Mg
  rw [Array.toList_append, ext_list, tk_ext b.toList ib (ib + k) (by omega), <- List.append_assoc]
  exact h.append_right _
theorem Mg.appA {a b out : Array Keyed} {ia ib k : Nat} (h : Mg a b out ia ib) : Mg a b (out ++ a.extract ia (ia + k)) (ia + k) ib := by
  unfold Mg
  rw [Array.toList_append, ext_list, tk_ext a.toList ia (ia + k) (by omega), List.append_assoc]
  refine (h.append_right _).trans ?_
  rw [List.append_assoc]
  exact List.Perm.append_left _ List.perm_append_comm
noncomputable def Mh (a b out : Array Keyed) (na nb : Nat) : Prop := out.toList.Perm (a.toList.drop na ++ b.toList.drop nb)
theorem Mh.end1 {a b out : Array Keyed} {na nb : Nat} (h : Mh a b out na nb) : (a.extract 0 na ++ b.extract 0 nb ++ out.reverse).toList.Perm (a.toList ++ b.toList) := by
  rw [Array.toList_append, Array.toList_append, ext_list, ext_list, List.drop_zero, List.drop_zero, Nat.sub_zero, Nat.sub_zero, Array.toList_reverse]
  refine (List.Perm.append_left _ ((List.reverse_perm _).trans h)).trans ?_
  conv => rhs; rw [<- List.take_append_drop na a.toList, <- List.take_append_drop nb b.toList]
  rw [List.append_assoc, List.append_assoc]
  refine List.Perm.append_left _ ?_
  rw [<- List.append_assoc, <- List.append_assoc]
  exact List.Perm.append_right _ List.perm_append_comm
theorem Mh.end2 {a b out : Array Keyed} {na nb : Nat} (h : Mh a b out na nb) : (b.extract 0 nb ++ a.extract 0 na ++ out.reverse).toList.Perm (a.toList ++ b.toList) := by
  refine List.Perm.trans ?_ h.end1
  simp only [Array.toList_append]
  exact List.Perm.append_right _ List.perm_append_comm
theorem Mh.pushA {a b out : Array Keyed} {na nb : Nat} {p : Keyed} (h : Mh a b out na nb) (h1 : 1 <= na) (hp : a[na - 1]? = some p) : Mh a b (out.push p) (na - 1) nb := by
  unfold Mh
  rw [Array.toList_push, dp_cons (l := a.toList) (i := na - 1) (by simpa using hp), show na - 1 + 1 = na by omega, List.cons_append]
  exact (h.append_right _).trans (List.perm_append_singleton _ _)
theorem Mh.pushB {a b out : Array Keyed} {na nb : Nat} {p : Keyed} (h : Mh a b out na nb) (h1 : 1 <= nb) (hp : b[nb - 1]? = some p) : Mh a b (out.push p) na (nb - 1) := by
  unfold Mh
  rw [Array.toList_push, dp_cons (l := b.toList) (i := nb - 1) (by simpa using hp), show nb - 1 + 1 = nb by omega]
  exact ((h.append_right _).trans (List.perm_append_singleton _ _)).trans List.perm_middle.symm
theorem Mh.appA {a b out : Array Keyed} {na nb k : Nat} (h : Mh a b out na nb) (hk : k <= na) : Mh a b (out ++ (a.extract k na).reverse) k nb := by
  unfold Mh
  have e : a.toList.drop k ++ b.toList.drop nb = (a.toList.drop k).take (na - k) ++ (a.toList.drop na ++ b.toList.drop nb) := by rw [<- List.append_assoc, <- dp_ext a.toList k na hk]
  rw [Array.toList_append, Array.toList_reverse, ext_list, e]
  exact (h.append (List.reverse_perm _)).trans List.perm_append_comm
theorem Mh.appB {a b out : Array Keyed} {na nb k : Nat} (h : Mh a b out na nb) (hk : k <= nb) : Mh a b (out ++ (b.extract k nb).reverse) na k := by
  unfold Mh
  have e : b.toList.drop k = (b.toList.drop k).take (nb - k) ++ b.toList.drop nb := dp_ext b.toList k nb hk
  rw [Array.toList_append, Array.toList_reverse, ext_list]
  refine (h.append (List.reverse_perm _)).trans ?_
  conv => rhs; rw [e]
  rw [List.append_assoc]
  exact List.Perm.append_left _ List.perm_append_comm
theorem lt_of_two {ia k n : Nat} (h : k <= n - ia) (h1 : ia + 1 < n) (z1 : ¬ ia + k + 1 = n) (z2 : ¬ ia + k = n) : ia + k + 1 < n := by omega
theorem lt_of_one {ib k n : Nat} (h : k <= n - (ib + 1)) (h1 : ib < n) (z : ¬ ib + 1 + k = n) : ib + 1 + k < n := by omega
theorem le_on {i x y z : Nat} (h : i + 2 <= x + y) (g : y <= z) : i + 2 <= x + 1 + z := by omega
theorem lt_pred {x n : Nat} (h1 : 1 <= x) (h2 : x <= n) : x - 1 < n := by omega
theorem le_pred {x n : Nat} (h2 : x <= n) : x - 1 <= n := by omega
theorem pos_ne {x : Nat} (h : ¬ x = 0) : 1 <= x := by omega
theorem le_on2 {i x y z n : Nat} (h : x + y + i + 2 <= n) (g : z <= y) : x - 1 + z + i + 2 <= n := by omega
section
variable {prog : Program} {w : World} {A : Around} {E : Value -> Shared -> Prop} {s : Shared} {κ : KeyKind} {a₀ : Array Keyed}
end
end L2
set_option maxHeartbeats 1000000
namespace L2
open PySem PySem.Spec PyProof.Rows
theorem lay_back {α : Type} (sa : Nat) : ∀ (l : List α) (n : Nat) (arr : Array α), sa + n + l.length <= arr.size ->
    ((l.zipIdx n).foldl (fun a x => match x with | (p, j) => a.setIfInBounds (sa + j) p) arr).toList = arr.toList.take (sa + n) ++ l ++ arr.toList.drop (sa + n + l.length)
  | [], n, arr, h => by simp
  | p :: l, n, arr, h => by
    rw [List.zipIdx_cons, List.foldl_cons]
    have h' : sa + n + (l.length + 1) <= arr.size := h
    have ih := lay_back sa l (n + 1) (arr.setIfInBounds (sa + n) p) (by rw [Array.size_setIfInBounds]; omega)
    have e0 : sa + (n + 1) = sa + n + 1 := by omega
    rw [e0] at ih
    refine Eq.trans ih ?_
    have hlt : sa + n < arr.toList.length := by rw [Array.length_toList]; omega
    rw [Array.toList_setIfInBounds, List.take_set, List.drop_set_of_lt (by omega), List.length_cons, show sa + n + 1 + l.length = sa + n + (l.length + 1) by omega]
    have e1 : (arr.toList.take (sa + n + 1)).set (sa + n) p = arr.toList.take (sa + n) ++ [p] := by
      rw [List.take_succ_eq_append_getElem hlt, List.set_append_right _ _ (by rw [List.length_take]; omega), List.length_take, Nat.min_eq_left (by omega), Nat.sub_self]
      rfl
    rw [e1]
    simp
section
variable {prog : Program} {w : World} {A : Around} {E : Value -> Shared -> Prop} {s : Shared} {κ : KeyKind} {a₀ : Array Keyed}
theorem wpS_set {M : Model} {σ : Type} {Q : PUnit -> σ -> Prop} {st st' : σ} (h : Q ⟨⟩ st') : wpS M A E s (set st' : StateT σ Sem PUnit) Q st := by
  unfold wpS; rw [StateT.run_set]; exact wpAny_pure ⟨rfl, h⟩
theorem laid_perm {arr : Array Keyed} {merged : Array Keyed} {x y z : Nat} (h1 : x <= y) (h2 : y <= z) (h3 : z <= arr.size) (hp : merged.toList.Perm ((arr.extract x y).toList ++ (arr.extract y z).toList)) :
    (merged.toList.zipIdx.foldl (fun a q => match q with | (p, j) => a.setIfInBounds (x + j) p) arr).Perm arr := by
  rw [ext_list, ext_list] at hp
  have e : (arr.toList.drop x).take (y - x) ++ (arr.toList.drop y).take (z - y) = (arr.toList.drop x).take (z - x) := by
    have := tk_ext (arr.toList.drop x) (y - x) (z - x) (by omega)
    rw [List.drop_drop, show x + (y - x) = y by omega, show z - x - (y - x) = z - y by omega] at this
    exact this.symm
  rw [e] at hp
  have hl : merged.toList.length = z - x := by rw [hp.length_eq, List.length_take, List.length_drop, Array.length_toList]; omega
  rw [Array.perm_iff_toList_perm]
  have := lay_back x merged.toList 0 arr (by omega)
  rw [Nat.add_zero, hl, show x + (z - x) = z by omega] at this
  refine List.Perm.trans (List.Perm.of_eq this) ?_
  refine ((List.Perm.append_left _ hp).append_right _).trans ?_
  rw [List.append_assoc, <- dp_ext arr.toList x z (by omega), List.take_append_drop]
end
theorem two_back (c : Prop) [Decidable c] {n : Nat} (h : ¬ n <= 1) : (if c then n - 2 - 1 else n - 2) + 1 < n := by split <;> omega
noncomputable def cp (P : Array (Nat × Nat × Nat)) : List (Nat × Nat) := P.toList.map fun x => (x.1, x.2.1)
noncomputable def Chn : List (Nat × Nat) -> Nat -> Nat -> Prop
  | [], a, b => a = b
  | (s, n) :: r, a, b => s = a /\ 1 <= n /\ Chn r (a + n) b
theorem two_at {α : Type} {l : List α} {i : Nat} {x y : α} (h1 : l[i]? = some x) (h2 : l[i + 1]? = some y) : l = l.take i ++ x :: y :: l.drop (i + 2) := by
  conv => lhs; rw [<- List.take_append_drop i l, dp_cons h1, dp_cons h2]
theorem two_one {α : Type} {l : List α} {i : Nat} {x y v : α} (h1 : l[i]? = some x) (h2 : l[i + 1]? = some y) : (l.set i v).eraseIdx (i + 1) = l.take i ++ v :: l.drop (i + 2) := by
  have hi := (List.getElem?_eq_some_iff.mp h1).1
  rw [List.eraseIdx_eq_take_drop_succ, List.drop_set_of_lt (by omega), List.take_set, List.take_succ_eq_append_getElem hi, List.set_append_right _ _ (by rw [List.length_take]; omega), List.length_take, Nat.min_eq_left (by omega), Nat.sub_self]
  simp
section
variable {prog : Program} {w : World} {A : Around} {E : Value -> Shared -> Prop} {s : Shared} {κ : KeyKind} {a₀ : Array Keyed}
end
end L2
set_option maxHeartbeats 1000000
namespace L2
open PySem PySem.Spec PyProof.Rows
section
variable {prog : Program} {w : World} {A : Around} {E : Value -> Shared -> Prop} {s : Shared}
end
section
variable {X : Cx}
end
end L2
set_option maxHeartbeats 1000000
namespace L2
open PySem PySem.Spec PyProof.Rows
section
variable {X : Cx}
end
end L2
set_option maxHeartbeats 1000000
namespace L2
open PySem PySem.Spec PyProof.Rows
structure LtOk (lt : Keyed -> Keyed -> Bool) : Prop where
  asym : ∀ p q, lt p q = true -> lt q p = false
  tr : ∀ p q r, lt q p = false -> lt r q = false -> lt r p = false
noncomputable def CmpOk (prog : Program) (w : World) (A : Around) (E : Value -> Shared -> Prop) (s : Shared) (kd : SortKind) (lt : Keyed -> Keyed -> Bool) (a₀ : Array Keyed) : Prop :=
  ∀ (st : SortSt) (p q : Keyed) (Q : Option Bool -> SortSt -> Prop), kindOf st = kd -> p ∈ a₀.toList -> q ∈ a₀.toList -> Q (some (lt p q)) st -> wpS (model prog w) A E s (lt' p q) Q st
noncomputable def bey (lt : Keyed -> Keyed -> Bool) (left : Bool) (key x : Keyed) : Bool := if left = true then lt x key else !lt key x
noncomputable def beyN (lt : Keyed -> Keyed -> Bool) (left : Bool) (key : Keyed) (arr : Array Keyed) (base i : Nat) : Bool := match arr[base + i]? with
  | some p => bey lt left key p
  | none => false
theorem beyN_of {lt : Keyed -> Keyed -> Bool} {left : Bool} {key p : Keyed} {arr : Array Keyed} {base i : Nat} (h : arr[base + i]? = some p) : beyN lt left key arr base i = bey lt left key p := by unfold beyN; rw [h]
section
variable {prog : Program} {w : World} {A : Around} {E : Value -> Shared -> Prop} {s : Shared} {kd : SortKind} {lt : Keyed -> Keyed -> Bool} {a₀ : Array Keyed}
theorem gal_ok {st : SortSt} {left : Bool} {key : Keyed} {arr : Array Keyed} {base n hint : Nat} {Q : Option Nat -> SortSt -> Prop} (C : CmpOk prog w A E s kd lt a₀) (hk : kindOf st = kd) (hkey : key ∈ a₀.toList) (harr : ∀ p ∈ arr.toList, p ∈ a₀.toList) (hn : base + n <= arr.size) (hh : hint < n)
    (mono : ∀ i j, i <= j -> j < n -> beyN lt left key arr base j = true -> beyN lt left key arr base i = true)
    (h : ∀ k, k <= n -> (∀ i, i < k -> beyN lt left key arr base i = true) -> (∀ i, k <= i -> i < n -> beyN lt left key arr base i = false) -> Q (some k) st) : wpS (model prog w) A E s (gal left key arr base n hint) Q st := by
  have ask : ∀ (i : Nat) (R : Option Bool -> SortSt -> Prop), i < n -> R (some (beyN lt left key arr base i)) st -> wpS (model prog w) A E s (elem' arr (base + i) >>= fun x => if left = true then lt' x key else lt' key x >>= fun b => pure (b.map fun x => !x)) R st := by
    intro i R hi hR
    refine wpS_bind (wpS_el (by omega) fun p hp ep => ?_)
    rw [beyN_of ep] at hR
    unfold bey at hR
    cases left with
    | true => rw [if_pos rfl] at hR ⊢; exact C _ _ _ _ hk (harr p hp) hkey hR
    | false => rw [if_neg (by decide)] at hR ⊢; exact wpS_bind (C _ _ _ _ hk hkey (harr p hp) (wpS_pure hR))
  have up : ∀ i, i < n -> beyN lt left key arr base i = true -> ∀ j, j <= i -> beyN lt left key arr base j = true := fun i hi e j hj => mono j i hj hi e
  have dn : ∀ i, beyN lt left key arr base i = false -> ∀ j, i <= j -> j < n -> beyN lt left key arr base j = false := fun i e j hij hj => by
    cases z : beyN lt left key arr base j with
    | false => rfl
    | true => rw [mono i j hij hj z] at e; cases e
  refine wpS_bind (ask hint _ hh ?_)
  cases eb : beyN lt left key arr base hint with
  | true =>
    refine wpS_bind (wpS_mono (wpS_forRange (I := fun x c st' => st' = st /\ ∃ l o, c = (none, l, o) /\ x + 1 <= o /\ l < n - hint /\ beyN lt left key arr base (hint + l) = true) (Q := fun c st' => st' = st /\ ∃ l o, c = (none, l, o) /\ l < n - hint /\ beyN lt left key arr base (hint + l) = true /\ (n - hint <= o \/ beyN lt left key arr base (hint + o) = false)) ?_ ?_ ⟨rfl, 0, 1, rfl, by omega, by omega, by simpa using eb⟩) ?_)
    · rintro x c st' _ hx ⟨rfl, l, o, rfl, h1, h2, h3⟩
      refine wpS_ite (fun g => wpS_pure ⟨rfl, l, o, rfl, h2, h3, .inl g⟩) (fun g => ?_)
      have g' : ¬ o ≥ n - hint := g
      refine wpS_bind (ask _ _ (show hint + o < n by omega) ?_)
      cases e2 : beyN lt left key arr base (hint + o) with
      | true => exact wpS_pure ⟨rfl, o, 2 * o + 1, rfl, by omega, by omega, e2⟩
      | false => exact wpS_pure ⟨rfl, l, o, rfl, h2, h3, .inr e2⟩
    · rintro c st' ⟨e, l, o, rfl, h1, h2, h3⟩
      exact ⟨e, l, o, rfl, h2, h3, .inl (by omega)⟩
    · rintro c st1 ⟨rfl, l, o, rfl, h2, h3, h4⟩
      dsimp only
      have a1 : ∀ i, i < hint + l + 1 -> beyN lt left key arr base i = true := fun i hi => up _ (by omega) h3 i (by omega)
      have a2 : ∀ i, hint + min o (n - hint) <= i -> i < n -> beyN lt left key arr base i = false := fun i hi hin => by
        rcases h4 with g | g
        · omega
        · exact dn _ g i (by omega) hin
      have a3 : hint + min o (n - hint) <= n := by omega
      have a4 : hint + l + 1 <= hint + min o (n - hint) := by
        rcases h4 with g | g
        · omega
        · by_cases z : hint + l + 1 <= hint + min o (n - hint)
          · exact z
          · have : beyN lt left key arr base (hint + o) = true := a1 _ (by omega)
            rw [g] at this; cases this
      refine wpS_bind (wpS_mono (wpS_forRange (I := fun x c st' => st' = st1 /\ ∃ l r, c = (none, l, r) /\ l <= r /\ r <= n /\ r - l + x <= n /\ (∀ i, i < l -> beyN lt left key arr base i = true) /\ (∀ i, r <= i -> i < n -> beyN lt left key arr base i = false)) (Q := fun c st' => st' = st1 /\ ∃ l r, c = (none, l, r) /\ l = r /\ r <= n /\ (∀ i, i < l -> beyN lt left key arr base i = true) /\ (∀ i, r <= i -> i < n -> beyN lt left key arr base i = false)) ?_ ?_ ⟨rfl, _, _, rfl, a4, a3, by omega, a1, a2⟩) ?_)
      · rintro x c st' _ hx ⟨rfl, l, r, rfl, b1, b2, b3, b4, b5⟩
        refine wpS_ite (fun g => wpS_pure ⟨rfl, l, r, rfl, Nat.le_antisymm b1 g, b2, b4, b5⟩) (fun g => ?_)
        have g' : ¬ l ≥ r := g
        refine wpS_bind (ask _ _ (show l + (r - l) / 2 < n by omega) ?_)
        cases e2 : beyN lt left key arr base (l + (r - l) / 2) with
        | true => exact wpS_pure ⟨rfl, l + (r - l) / 2 + 1, r, rfl, by omega, b2, by omega, fun i hi => up _ (by omega) e2 i (by omega), b5⟩
        | false => exact wpS_pure ⟨rfl, l, l + (r - l) / 2, rfl, by omega, by omega, by omega, b4, dn _ e2⟩
      · rintro c st' ⟨e, l, r, rfl, b1, b2, b3, b4, b5⟩
        exact ⟨e, l, r, rfl, by omega, b2, b4, b5⟩
      · rintro c st' ⟨rfl, l, r, rfl, rfl, b2, b4, b5⟩
        exact wpS_pure (h l b2 b4 b5)
  | false =>
    refine wpS_bind (wpS_mono (wpS_forRange (I := fun x c st' => st' = st /\ ∃ l o, c = (none, l, o) /\ x + 1 <= o /\ l <= hint /\ beyN lt left key arr base (hint - l) = false) (Q := fun c st' => st' = st /\ ∃ l o, c = (none, l, o) /\ l <= hint /\ beyN lt left key arr base (hint - l) = false /\ (hint + 1 <= o \/ (o <= hint /\ beyN lt left key arr base (hint - o) = true))) ?_ ?_ ⟨rfl, 0, 1, rfl, by omega, by omega, by simpa using eb⟩) ?_)
    · rintro x c st' _ hx ⟨rfl, l, o, rfl, h1, h2, h3⟩
      refine wpS_ite (fun g => wpS_pure ⟨rfl, l, o, rfl, h2, h3, .inl g⟩) (fun g => ?_)
      have g' : ¬ o ≥ hint + 1 := g
      refine wpS_bind (ask _ _ (show hint - o < n by omega) ?_)
      cases e2 : beyN lt left key arr base (hint - o) with
      | true => exact wpS_pure ⟨rfl, l, o, rfl, h2, h3, .inr ⟨by omega, e2⟩⟩
      | false => exact wpS_pure ⟨rfl, o, 2 * o + 1, rfl, by omega, by omega, e2⟩
    · rintro c st' ⟨e, l, o, rfl, h1, h2, h3⟩
      exact ⟨e, l, o, rfl, h2, h3, .inl (by omega)⟩
    · rintro c st1 ⟨rfl, l, o, rfl, h2, h3, h4⟩
      dsimp only
      have a1 : ∀ i, i < hint + 1 - min o (hint + 1) -> beyN lt left key arr base i = true := fun i hi => by
        rcases h4 with g | ⟨g1, g2⟩
        · omega
        · exact up _ (by omega) g2 i (by omega)
      have a2 : ∀ i, hint - l <= i -> i < n -> beyN lt left key arr base i = false := fun i hi hin => dn _ h3 i hi hin
      have a4 : hint + 1 - min o (hint + 1) <= hint - l := by
        by_cases z : hint + 1 - min o (hint + 1) <= hint - l
        · exact z
        · have : beyN lt left key arr base (hint - l) = true := a1 _ (by omega)
          rw [h3] at this; cases this
      refine wpS_bind (wpS_mono (wpS_forRange (I := fun x c st' => st' = st1 /\ ∃ l r, c = (none, l, r) /\ l <= r /\ r <= n /\ r - l + x <= n /\ (∀ i, i < l -> beyN lt left key arr base i = true) /\ (∀ i, r <= i -> i < n -> beyN lt left key arr base i = false)) (Q := fun c st' => st' = st1 /\ ∃ l r, c = (none, l, r) /\ l = r /\ r <= n /\ (∀ i, i < l -> beyN lt left key arr base i = true) /\ (∀ i, r <= i -> i < n -> beyN lt left key arr base i = false)) ?_ ?_ ⟨rfl, _, _, rfl, a4, by omega, by omega, a1, a2⟩) ?_)
      · rintro x c st' _ hx ⟨rfl, l, r, rfl, b1, b2, b3, b4, b5⟩
        refine wpS_ite (fun g => wpS_pure ⟨rfl, l, r, rfl, Nat.le_antisymm b1 g, b2, b4, b5⟩) (fun g => ?_)
        have g' : ¬ l ≥ r := g
        refine wpS_bind (ask _ _ (show l + (r - l) / 2 < n by omega) ?_)
        cases e2 : beyN lt left key arr base (l + (r - l) / 2) with
        | true => exact wpS_pure ⟨rfl, l + (r - l) / 2 + 1, r, rfl, by omega, b2, by omega, fun i hi => up _ (by omega) e2 i (by omega), b5⟩
        | false => exact wpS_pure ⟨rfl, l, l + (r - l) / 2, rfl, by omega, by omega, by omega, b4, dn _ e2⟩
      · rintro c st' ⟨e, l, r, rfl, b1, b2, b3, b4, b5⟩
        exact ⟨e, l, r, rfl, by omega, b2, b4, b5⟩
      · rintro c st' ⟨rfl, l, r, rfl, rfl, b2, b4, b5⟩
        exact wpS_pure (h l b2 b4 b5)
end
end L2
set_option maxHeartbeats 1000000
namespace L2
open PySem PySem.Spec PyProof.Rows
section
variable {lt : Keyed -> Keyed -> Bool}
noncomputable def Srt (lt : Keyed -> Keyed -> Bool) (l : List Keyed) : Prop := l.Pairwise fun p q => lt q p = false
theorem srt_three {x c y : List Keyed} (h1 : Srt lt (x ++ y)) (h2 : Srt lt (x ++ c)) (h3 : ∀ e ∈ c, ∀ f ∈ y, lt f e = false) : Srt lt (x ++ c ++ y) := by
  unfold Srt at *
  rw [List.pairwise_append] at h1 h2 ⊢
  refine ⟨List.pairwise_append.mpr h2, h1.2.1, fun e he f hf => ?_⟩
  rcases List.mem_append.mp he with z | z
  · exact h1.2.2 e z f hf
  · exact h3 e z f hf
theorem srt_left {x y : List Keyed} (h : Srt lt (x ++ y)) : Srt lt x := (List.pairwise_append.mp h).1
theorem srt_right {x y : List Keyed} (h : Srt lt (x ++ y)) : Srt lt y := (List.pairwise_append.mp h).2.1
theorem srt_from (L : LtOk lt) {l : List Keyed} {i : Nat} {p q : Keyed} (h : Srt lt l) (hp : l[i]? = some p) (hq : lt p q = false) : ∀ x ∈ l.drop i, lt x q = false := fun x hx => by
  rw [dp_cons hp] at hx
  rcases List.mem_cons.mp hx with z | z
  · rw [z]; exact hq
  · have h2 : Srt lt (l.take i ++ p :: l.drop (i + 1)) := by rw [<- dp_cons hp, List.take_append_drop]; exact h
    exact L.tr q p x hq (List.rel_of_pairwise_cons (srt_right h2) z)
theorem srt_at {l : List Keyed} {i j : Nat} {p q : Keyed} (h : Srt lt l) (hij : i < j) (hp : l[i]? = some p) (hq : l[j]? = some q) : lt q p = false := by
  have h1 := List.getElem?_eq_some_iff.mp hp
  have h2 := List.getElem?_eq_some_iff.mp hq
  have := (List.pairwise_iff_getElem.mp h) i j h1.1 h2.1 hij
  rwa [h1.2, h2.2] at this
theorem irr (L : LtOk lt) (p : Keyed) : lt p p = false := by
  cases e : lt p p with
  | false => rfl
  | true => have := L.asym p p e; rw [e] at this; cases this
theorem srt_le (L : LtOk lt) {l : List Keyed} {i j : Nat} {p q : Keyed} (h : Srt lt l) (hij : i <= j) (hp : l[i]? = some p) (hq : l[j]? = some q) : lt q p = false := by
  rcases Nat.lt_or_eq_of_le hij with z | z
  · exact srt_at h z hp hq
  · subst z; rw [hp] at hq; cases hq; exact irr L p
structure MgS (lt : Keyed -> Keyed -> Bool) (a b out : Array Keyed) (ia ib : Nat) : Prop where
  m : Mg a b out ia ib
  sa : Srt lt (out.toList ++ a.toList.drop ia)
  sb : Srt lt (out.toList ++ b.toList.drop ib)
variable {a b out : Array Keyed} {ia ib k : Nat} {p q : Keyed}
theorem MgS.pushB (h : MgS lt a b out ia ib) (hp : b[ib]? = some q) (hq : ∀ x ∈ a.toList.drop ia, lt x q = false) : MgS lt a b (out.push q) ia (ib + 1) := by
  have hd : b.toList.drop ib = q :: b.toList.drop (ib + 1) := dp_cons (by simpa using hp)
  have h2 : Srt lt (out.toList ++ [q] ++ b.toList.drop (ib + 1)) := by
    have := h.sb; rw [hd] at this; simpa using this
  refine ⟨h.m.pushB hp, ?_, ?_⟩
  · rw [Array.toList_push]; exact srt_three h.sa (srt_left h2) fun e he f hf => by rw [List.mem_singleton.mp he]; exact hq f hf
  · rw [Array.toList_push]; exact h2
theorem MgS.pushA (h : MgS lt a b out ia ib) (hp : a[ia]? = some q) (hq : ∀ x ∈ b.toList.drop ib, lt x q = false) : MgS lt a b (out.push q) (ia + 1) ib := by
  have hd : a.toList.drop ia = q :: a.toList.drop (ia + 1) := dp_cons (by simpa using hp)
  have h2 : Srt lt (out.toList ++ [q] ++ a.toList.drop (ia + 1)) := by
    have := h.sa; rw [hd] at this; simpa using this
  refine ⟨h.m.pushA hp, ?_, ?_⟩
  · rw [Array.toList_push]; exact h2
  · rw [Array.toList_push]; exact srt_three h.sb (srt_left h2) fun e he f hf => by rw [List.mem_singleton.mp he]; exact hq f hf
theorem MgS.appA (h : MgS lt a b out ia ib) (hq : ∀ e ∈ (a.toList.drop ia).take k, ∀ x ∈ b.toList.drop ib, lt x e = false) : MgS lt a b (out ++ a.extract ia (ia + k)) (ia + k) ib := by
  have hd := dp_ext a.toList ia (ia + k) (by omega)
  rw [Nat.add_sub_cancel_left] at hd
  have h2 : Srt lt (out.toList ++ (a.toList.drop ia).take k ++ a.toList.drop (ia + k)) := by
    have := h.sa; rw [hd] at this; rw [List.append_assoc]; exact this
  refine ⟨h.m.appA, ?_, ?_⟩
  · rw [Array.toList_append, ext_list, Nat.add_sub_cancel_left]; exact h2
  · rw [Array.toList_append, ext_list, Nat.add_sub_cancel_left]; exact srt_three h.sb (srt_left h2) hq
theorem MgS.appB (h : MgS lt a b out ia ib) (hq : ∀ e ∈ (b.toList.drop ib).take k, ∀ x ∈ a.toList.drop ia, lt x e = false) : MgS lt a b (out ++ b.extract ib (ib + k)) ia (ib + k) := by
  have hd := dp_ext b.toList ib (ib + k) (by omega)
  rw [Nat.add_sub_cancel_left] at hd
  have h2 : Srt lt (out.toList ++ (b.toList.drop ib).take k ++ b.toList.drop (ib + k)) := by
    have := h.sb; rw [hd] at this; rw [List.append_assoc]; exact this
  refine ⟨h.m.appB, ?_, ?_⟩
  · rw [Array.toList_append, ext_list, Nat.add_sub_cancel_left]; exact srt_three h.sa (srt_left h2) hq
  · rw [Array.toList_append, ext_list, Nat.add_sub_cancel_left]; exact h2
noncomputable def FinS (lt : Keyed -> Keyed -> Bool) (a b out : Array Keyed) : Prop := out.toList.Perm (a.toList ++ b.toList) /\ Srt lt out.toList
theorem MgS.endB (h : MgS lt a b out ia ib) (e : ib = b.size) : FinS lt a b (out ++ a.extract ia ++ b.extract ib) := by
  refine ⟨h.m.end1, ?_⟩
  rw [Array.toList_append, Array.toList_append, ext_list, ext_list, List.take_of_length_le (by simp), List.take_of_length_le (by simp), List.drop_of_length_le (l := b.toList) (by simp [e]), List.append_nil]
  exact h.sa
theorem MgS.endA (h : MgS lt a b out ia ib) (e : ia = a.size) : FinS lt a b (out ++ a.extract ia ++ b.extract ib) := by
  refine ⟨h.m.end1, ?_⟩
  rw [Array.toList_append, Array.toList_append, ext_list, ext_list, List.take_of_length_le (by simp), List.take_of_length_le (by simp), List.drop_of_length_le (l := a.toList) (by simp [e]), List.append_nil]
  exact h.sb
theorem MgS.endL (h : MgS lt a b out ia ib) (hl : ∀ e ∈ b.toList, ∀ x ∈ a.toList.drop ia, lt x e = false) : FinS lt a b (out ++ b.extract ib ++ a.extract ia) := by
  refine ⟨h.m.end2, ?_⟩
  rw [Array.toList_append, Array.toList_append, ext_list, ext_list, List.take_of_length_le (by simp), List.take_of_length_le (by simp)]
  exact srt_three h.sa h.sb fun e he f hf => hl e (List.mem_of_mem_drop he) f hf
theorem last_one {l : List Keyed} {i : Nat} {y : Keyed} (hi : i + 1 = l.length) (hy : l[l.length - 1]? = some y) : l.drop i = [y] := by
  have e : l.length - 1 = i := by omega
  rw [e] at hy
  rw [dp_cons hy, List.drop_of_length_le (by omega)]
theorem mem_take_drop {l : List Keyed} {i k : Nat} {e : Keyed} (h : e ∈ (l.drop i).take k) : ∃ j, j < k /\ l[i + j]? = some e := by
  obtain ⟨j, hj⟩ := List.getElem?_of_mem h
  have h1 := (List.getElem?_eq_some_iff.mp hj).1
  rw [List.length_take] at h1
  rw [List.getElem?_take_of_lt (by omega), List.getElem?_drop] at hj
  exact ⟨j, by omega, hj⟩
theorem mem_drop {l : List Keyed} {i : Nat} {e : Keyed} (h : e ∈ l.drop i) : ∃ j, l[i + j]? = some e := by
  obtain ⟨j, hj⟩ := List.getElem?_of_mem h
  rw [List.getElem?_drop] at hj
  exact ⟨j, hj⟩
theorem bey_right {arr : Array Keyed} {base i : Nat} {x key : Keyed} (h : arr.toList[base + i]? = some x) : beyN lt false key arr base i = !lt key x := by
  rw [beyN_of (p := x) (by simpa using h)]; rfl
theorem bey_left {arr : Array Keyed} {base i : Nat} {x key : Keyed} (h : arr.toList[base + i]? = some x) : beyN lt true key arr base i = lt x key := by
  rw [beyN_of (p := x) (by simpa using h)]; rfl
theorem mono_right (L : LtOk lt) {arr : Array Keyed} {base n : Nat} (key : Keyed) (hn : base + n <= arr.size) (hs : Srt lt ((arr.toList.drop base).take n)) : ∀ i j, i <= j -> j < n -> beyN lt false key arr base j = true -> beyN lt false key arr base i = true := fun i j hij hj e => by
  have hj2 : base + j < arr.toList.length := by rw [Array.length_toList]; omega
  have hi2 : base + i < arr.toList.length := by omega
  rw [bey_right (List.getElem?_eq_getElem hj2)] at e
  rw [bey_right (List.getElem?_eq_getElem hi2)]
  have hle : lt (arr.toList[base + j]) (arr.toList[base + i]) = false := srt_le L hs hij (by rw [List.getElem?_take_of_lt (by omega), List.getElem?_drop]; exact List.getElem?_eq_getElem hi2) (by rw [List.getElem?_take_of_lt hj, List.getElem?_drop]; exact List.getElem?_eq_getElem hj2)
  have e' : lt key (arr.toList[base + j]) = false := by simpa using e
  rw [L.tr _ _ _ hle e']; rfl
theorem mono_left (L : LtOk lt) {arr : Array Keyed} {base n : Nat} (key : Keyed) (hn : base + n <= arr.size) (hs : Srt lt ((arr.toList.drop base).take n)) : ∀ i j, i <= j -> j < n -> beyN lt true key arr base j = true -> beyN lt true key arr base i = true := fun i j hij hj e => by
  have hj2 : base + j < arr.toList.length := by rw [Array.length_toList]; omega
  have hi2 : base + i < arr.toList.length := by omega
  rw [bey_left (List.getElem?_eq_getElem hj2)] at e
  rw [bey_left (List.getElem?_eq_getElem hi2)]
  have hle : lt (arr.toList[base + j]) (arr.toList[base + i]) = false := srt_le L hs hij (by rw [List.getElem?_take_of_lt (by omega), List.getElem?_drop]; exact List.getElem?_eq_getElem hi2) (by rw [List.getElem?_take_of_lt hj, List.getElem?_drop]; exact List.getElem?_eq_getElem hj2)
  cases z : lt (arr.toList[base + i]) key with
  | true => rfl
  | false => rw [L.tr _ _ _ z hle] at e; cases e
theorem srt_sub {l : List Keyed} (h : Srt lt l) (i n : Nat) : Srt lt ((l.drop i).take n) := h.sublist ((List.take_sublist _ _).trans (List.drop_sublist _ _))
theorem mgs_on {i g ac bc : Nat} {st st' : SortSt} (hg : IsG st st') (m : MgS lt a b out ia ib) (q : ia + 1 < a.size) (r : ib < b.size) (t : i + 2 <= ia + ib) : IsG st st' /\ ∃ out' ia' ib' g' ac' bc', ((none, out, ia, ib, g, ac, bc) : Option (Array Keyed) × Array Keyed × Nat × Nat × Nat × Nat × Nat) = (none, out', ia', ib', g', ac', bc') /\ MgS lt a b out' ia' ib' /\ ia' + 1 < a.size /\ ib' < b.size /\ i + 2 <= ia' + ib' :=
  ⟨hg, _, _, _, _, _, _, rfl, m, q, r, t⟩
theorem mgs_done {i g ac bc : Nat} {st st' : SortSt} (hg : IsG st st') (m : MgS lt a b out ia ib) (q : ia + 1 < a.size) (r : ib < b.size) (t : i + 2 <= ia + ib) : IsG st st' /\ ((∃ out' z, ((none, out, ia, ib, g, ac, bc) : Option (Array Keyed) × Array Keyed × Nat × Nat × Nat × Nat × Nat) = (some out', z) /\ FinS lt a b out') \/ ∃ out' ia' ib' g' ac' bc', ((none, out, ia, ib, g, ac, bc) : Option (Array Keyed) × Array Keyed × Nat × Nat × Nat × Nat × Nat) = (none, out', ia', ib', g', ac', bc') /\ MgS lt a b out' ia' ib' /\ ia' + 1 < a.size /\ ib' < b.size /\ i + 2 <= ia' + ib') :=
  ⟨hg, .inr (mgs_on hg m q r t).2⟩
end
section
variable {prog : Program} {w : World} {A : Around} {E : Value -> Shared -> Prop} {s : Shared} {kd : SortKind} {lt : Keyed -> Keyed -> Bool} {a₀ : Array Keyed}
theorem mLo_ok {st : SortSt} {a b : Array Keyed} {Q : Array Keyed -> SortSt -> Prop} (L : LtOk lt) (C : CmpOk prog w A E s kd lt a₀) (hk0 : kindOf st = kd) (ha : ∀ p ∈ a.toList, p ∈ a₀.toList) (hb : ∀ p ∈ b.toList, p ∈ a₀.toList) (na : 1 <= a.size) (nb : 1 <= b.size)
    (sa : Srt lt a.toList) (sb : Srt lt b.toList) (hf : ∀ x ∈ a.toList, ∀ q, b[0]? = some q -> lt x q = false) (hl : ∀ y, a[a.size - 1]? = some y -> ∀ e ∈ b.toList, lt y e = false)
    (h : ∀ out st', IsG st st' -> FinS lt a b out -> Q out st') : wpS (model prog w) A E s (mLo a b) Q st := by
  refine wpS_bind (wpS_lift (wpAny_rule ⟨rfl, ?_⟩))
  refine wpS_bind (wpS_el (by omega) fun p hp ep => ?_)
  have m0 : MgS lt a b #[p] 0 1 := (show MgS lt a b #[] 0 0 from ⟨List.Perm.refl _, by simpa using sa, by simpa using sb⟩).pushB ep fun x hx => hf x (List.mem_of_mem_drop hx) p ep
  have lastA : ∀ {out : Array Keyed} {ia ib : Nat}, MgS lt a b out ia ib -> ia + 1 = a.size -> FinS lt a b (out ++ b.extract ib ++ a.extract ia) := fun {out ia ib} m e => m.endL fun x hx y hy => by
    have hz : a.size - 1 < a.size := by omega
    have ey : a[a.size - 1]? = some a[a.size - 1] := getElem?_pos a _ hz
    rw [last_one (l := a.toList) (y := a[a.size - 1]) (by rw [Array.length_toList]; exact e) (by rw [Array.length_toList]; simpa using ey)] at hy
    rw [List.mem_singleton.mp hy]
    exact hl _ ey x hx
  refine wpS_ite (fun g => ?_) (fun g => ?_)
  · exact wpS_pure (h _ _ (.refl _) (m0.endB (by simpa using g)))
  refine wpS_ite (fun g2 => ?_) (fun g2 => ?_)
  · exact wpS_pure (h _ _ (.refl _) (lastA m0 (by simpa using g2)))
  have g' : ¬ 1 = b.size := fun z => g (by simpa using z)
  have g2' : ¬ 0 + 1 = a.size := fun z => g2 (by simpa using z)
  refine wpS_bind (wpS_get ?_)
  refine wpS_bind (wpS_mono (wpS_forRange (I := fun i c st' => IsG st st' /\ ∃ out ia ib g, c = (none, out, ia, ib, g) /\ MgS lt a b out ia ib /\ ia + 1 < a.size /\ ib < b.size /\ i + 1 <= ia + ib)
    (Q := fun c st' => IsG st st' /\ ∃ out z, c = (some out, z) /\ FinS lt a b out) ?_ ?_ ?_) ?_)
  · rintro i c st1 _ hi ⟨hg, out, ia, ib, g, rfl, m1, h1, h2, h3⟩
    have hk1 : kindOf st1 = kd := by obtain ⟨g0, rfl⟩ := hg; exact hk0
    refine wpS_bind (wpS_mono (wpS_forRange (I := fun x c st' => st' = st1 /\ ∃ out ia ib ac bc, c = (none, out, ia, ib, ac, bc) /\ MgS lt a b out ia ib /\ ia + 1 < a.size /\ ib < b.size /\ i + 1 + x <= ia + ib)
      (Q := fun c st' => st' = st1 /\ ((∃ out z, c = (some out, z) /\ FinS lt a b out) \/ ∃ out ia ib ac bc, c = (none, out, ia, ib, ac, bc) /\ MgS lt a b out ia ib /\ ia + 1 < a.size /\ ib < b.size /\ i + 2 <= ia + ib)) ?_ ?_ ⟨rfl, out, ia, ib, 0, 0, rfl, m1, h1, h2, by omega⟩) ?_)
    · rintro x c st2 _ hx ⟨rfl, out, ia, ib, ac, bc, rfl, m1, h1, h2, h3⟩
      refine wpS_bind (wpS_el h2 fun pb hpb eb => wpS_bind (wpS_el (show ia < a.size by omega) fun pa hpa ea => wpS_bind (C _ _ _ _ hk1 (hb _ hpb) (ha _ hpa) ?_)))
      cases ans : lt pb pa with
      | true =>
        refine wpS_bind (wpS_el h2 fun q hq eq => ?_)
        have m2 := m1.pushB eq (srt_from L sa (i := ia) (p := pa) (by simpa using ea) (by rw [eb] at eq; cases eq; exact L.asym _ _ ans))
        refine wpS_ite (fun z => wpS_pure ⟨rfl, .inl ⟨_, _, rfl, m2.endB (by simpa using z)⟩⟩) (fun z => ?_)
        have z' : ¬ ib + 1 = b.size := fun y => z (by simpa using y)
        exact wpS_ite (fun _ => wpS_pure ⟨rfl, .inr ⟨_, ia, ib + 1, _, _, rfl, m2, h1, by omega, by omega⟩⟩) (fun _ => wpS_pure ⟨rfl, _, ia, ib + 1, _, _, rfl, m2, h1, by omega, by omega⟩)
      | false =>
        refine wpS_bind (wpS_el (show ia < a.size by omega) fun q hq eq => ?_)
        have m2 := m1.pushA eq (srt_from L sb (i := ib) (p := pb) (by simpa using eb) (by rw [ea] at eq; cases eq; exact ans))
        refine wpS_ite (fun z => wpS_pure ⟨rfl, .inl ⟨_, _, rfl, lastA m2 (by simpa using z)⟩⟩) (fun z => ?_)
        have z' : ¬ ia + 1 + 1 = a.size := fun y => z (by simpa using y)
        exact wpS_ite (fun _ => wpS_pure ⟨rfl, .inr ⟨_, ia + 1, ib, _, _, rfl, m2, by omega, h2, by omega⟩⟩) (fun _ => wpS_pure ⟨rfl, _, ia + 1, ib, _, _, rfl, m2, by omega, h2, by omega⟩)
    · rintro c st2 ⟨e2, out, ia, ib, ac, bc, rfl, m1, h1, h2, h3⟩
      exact ⟨e2, .inr ⟨_, _, _, _, _, rfl, m1, h1, h2, by omega⟩⟩
    · rintro c st2 ⟨rfl, ⟨out, z, rfl, pf⟩ | ⟨out, ia, ib, ac, bc, rfl, m1, h1, h2, h3⟩⟩
      · exact wpS_pure ⟨hg, out, _, rfl, pf⟩
      refine wpS_bind (wpS_lift (wpAny_rule ⟨rfl, ?_⟩))
      refine wpS_bind (wpS_mono (wpS_forRange (I := fun x c st' => IsG st st' /\ ∃ out ia ib g ac bc, c = (none, out, ia, ib, g, ac, bc) /\ MgS lt a b out ia ib /\ ia + 1 < a.size /\ ib < b.size /\ i + 2 <= ia + ib)
        (Q := fun c st' => IsG st st' /\ ((∃ out z, c = (some out, z) /\ FinS lt a b out) \/ ∃ out ia ib g ac bc, c = (none, out, ia, ib, g, ac, bc) /\ MgS lt a b out ia ib /\ ia + 1 < a.size /\ ib < b.size /\ i + 2 <= ia + ib)) ?_ ?_ ⟨hg, out, ia, ib, _, ac, bc, rfl, m1, h1, h2, h3⟩) ?_)
      · rintro x c st3 _ hx ⟨hg3, out, ia, ib, gg, ac, bc, rfl, m1, h1, h2, h3⟩
        have hk3 : kindOf st3 = kd := by obtain ⟨g0, rfl⟩ := hg3; exact hk0
        refine wpS_ite (fun _ => ?_) (fun _ => ?_)
        all_goals
          refine wpS_bind (wpS_modify ?_)
          refine wpS_bind (wpS_el h2 fun pb hpb eb => wpS_bind (gal_ok C hk3 (hb _ hpb) ha (show ia + (a.size - ia) <= a.size by omega) (show 0 < a.size - ia by omega) (mono_right L pb (show ia + (a.size - ia) <= a.size by omega) (srt_sub sa _ _)) fun k hk y1 y2 => ?_))
          have pbl : ∀ x ∈ b.toList.drop ib, lt x pb = false := srt_from L sb (i := ib) (p := pb) (by simpa using eb) (irr L pb)
          have c1 : ∀ e ∈ (a.toList.drop ia).take k, ∀ x ∈ b.toList.drop ib, lt x e = false := fun e he x hx => by
            obtain ⟨j, hj, ej⟩ := mem_take_drop he
            have := y1 j hj
            rw [bey_right ej] at this
            exact L.tr e pb x (by simpa using this) (pbl x hx)
          have c2 : ∀ x ∈ a.toList.drop (ia + k), lt x pb = false := fun x hx => by
            obtain ⟨j, ej⟩ := mem_drop hx
            have hlt := (List.getElem?_eq_some_iff.mp ej).1
            rw [Array.length_toList] at hlt
            have := (show ∀ i, k <= i -> i < a.size - ia -> beyN lt false pb a ia i = false from y2) (k + j) (by omega) (by omega)
            rw [bey_right (x := x) (by rw [<- Nat.add_assoc]; exact ej)] at this
            exact L.asym _ _ (by simpa using this)
          refine wpS_ite (fun hk1 => wpS_ite (fun z => wpS_pure ⟨hg3.set _, .inl ⟨_, _, rfl, lastA (m1.appA c1) (by simpa using z)⟩⟩) (fun z1 => wpS_ite (fun z => wpS_pure ⟨hg3.set _, .inl ⟨_, _, rfl, (m1.appA c1).endA (by simpa using z)⟩⟩) (fun z2 => ?_))) (fun hk1 => ?_)
          all_goals first
            | (have m2 := m1.appA c1
               have c3 := c2
               have q1 : ia + k + 1 < a.size := lt_of_two hk h1 (fun e => z1 (by simpa using e)) (fun e => z2 (by simpa using e))
               have q2 : i + 2 <= ia + k + ib := by omega)
            | (have m2 := m1
               have hk0' : k = 0 := Nat.eq_zero_of_not_pos hk1
               have c3 : ∀ x ∈ a.toList.drop ia, lt x pb = false := by rw [hk0', Nat.add_zero] at c2; exact c2
               have q1 := h1
               have q2 := h3)
          all_goals
            refine wpS_bind (wpS_el h2 fun pc hpc ec => ?_)
            have epc : pc = pb := by rw [eb] at ec; exact (Option.some.inj ec).symm
            subst epc
            have m3 := m2.pushB ec c3
            refine wpS_ite (fun z => wpS_pure ⟨hg3.set _, .inl ⟨_, _, rfl, m3.endB (by simpa using z)⟩⟩) (fun z3 => ?_)
            have z3' : ¬ ib + 1 = b.size := fun e => z3 (by simpa using e)
            refine wpS_bind (wpS_el (Nat.lt_of_succ_lt q1) fun pd hpd ed => wpS_bind (gal_ok C hk3 (ha _ hpd) hb (show ib + 1 + (b.size - (ib + 1)) <= b.size by omega) (show 0 < b.size - (ib + 1) by omega) (mono_left L pd (show ib + 1 + (b.size - (ib + 1)) <= b.size by omega) (srt_sub sb _ _)) fun k2 hk2 y3 y4 => ?_))
            have pdl := srt_from L sa (p := pd) (by simpa using ed) (irr L pd)
            have c4 : ∀ e ∈ (b.toList.drop (ib + 1)).take k2, ∀ x ∈ a.toList.drop _, lt x e = false := fun e he x hx => by
              obtain ⟨j, hj, ej⟩ := mem_take_drop he
              have := y3 j hj
              rw [bey_left ej] at this
              exact L.tr e pd x (L.asym _ _ this) (pdl x hx)
            have c5 : ∀ x ∈ b.toList.drop (ib + 1 + k2), lt x pd = false := fun x hx => by
              obtain ⟨j, ej⟩ := mem_drop hx
              have hlt := (List.getElem?_eq_some_iff.mp ej).1
              rw [Array.length_toList] at hlt
              have := (show ∀ i, k2 <= i -> i < b.size - (ib + 1) -> beyN lt true pd b (ib + 1) i = false from y4) (k2 + j) (by omega) (by omega)
              rw [bey_left (x := x) (by rw [<- Nat.add_assoc]; exact ej)] at this
              exact this
            refine wpS_ite (fun hk3' => wpS_ite (fun z => wpS_pure ⟨hg3.set _, .inl ⟨_, _, rfl, (m3.appB c4).endB (by simpa using z)⟩⟩) (fun z4 => ?_)) (fun hk3' => ?_)
            all_goals first
              | (have m4 := m3.appB c4
                 have c6 := c5
                 have r1 : ib + 1 + k2 < b.size := lt_of_one hk2 h2 (fun e => z4 (by simpa using e))
                 have r2 : ib <= ib + 1 + k2 := by omega)
              | (have m4 := m3
                 have hk0'' : k2 = 0 := Nat.eq_zero_of_not_pos hk3'
                 have c6 : ∀ x ∈ b.toList.drop (ib + 1), lt x pd = false := by rw [hk0'', Nat.add_zero] at c5; exact c5
                 have r1 : ib + 1 < b.size := by omega
                 have r2 : ib <= ib + 1 := by omega)
            all_goals
              refine wpS_bind (wpS_el (Nat.lt_of_succ_lt q1) fun pe hpe ee => ?_)
              have epe : pe = pd := by rw [ed] at ee; exact (Option.some.inj ee).symm
              subst epe
              have m5 := m4.pushA ee c6
              refine wpS_ite (fun z => wpS_pure ⟨hg3.set _, .inl ⟨_, _, rfl, lastA m5 (by simpa using z)⟩⟩) (fun z5 => ?_)
              have q5 := Nat.lt_of_le_of_ne q1 (fun e => z5 (by simpa using e))
              exact wpS_ite (fun _ => wpS_pure (mgs_done (hg3.set _) m5 q5 r1 (le_on q2 r2))) (fun _ => wpS_pure (mgs_on (hg3.set _) m5 q5 r1 (le_on q2 r2)))
      · rintro c st3 ⟨hg3, out, ia, ib, gg, ac, bc, rfl, m1, h1, h2, h3⟩
        exact ⟨hg3, .inr ⟨_, _, _, _, _, _, rfl, m1, h1, h2, h3⟩⟩
      · rintro c st3 ⟨hg3, ⟨out, z, rfl, pf⟩ | ⟨out, ia, ib, g, ac, bc, rfl, m1, h1, h2, h3⟩⟩
        · exact wpS_pure ⟨hg3, out, _, rfl, pf⟩
        · exact wpS_bind (wpS_modify (wpS_pure ⟨hg3.set _, _, _, _, _, rfl, m1, h1, h2, by omega⟩))
  · rintro c st1 ⟨hg, out, ia, ib, g, rfl, m1, h1, h2, h3⟩
    exfalso
    omega
  · exact ⟨.refl _, _, _, _, _, rfl, m0, by omega, by omega, by omega⟩
  · rintro c st' ⟨hg, out, z, rfl, hp⟩
    exact wpS_pure (h _ _ hg hp)
end
end L2
set_option maxHeartbeats 1000000
namespace L2
open PySem PySem.Spec PyProof.Rows
section
variable {lt : Keyed -> Keyed -> Bool}
theorem srt_four {x c y : List Keyed} (h1 : Srt lt (x ++ y)) (h2 : Srt lt (c ++ y)) (h3 : ∀ e ∈ x, ∀ f ∈ c, lt f e = false) : Srt lt (x ++ c ++ y) := by
  unfold Srt at *
  rw [List.append_assoc]
  rw [List.pairwise_append] at h1 ⊢
  refine ⟨h1.1, h2, fun e he f hf => ?_⟩
  rcases List.mem_append.mp hf with z | z
  · exact h3 e he f z
  · exact h1.2.2 e he f z
theorem srt_upto (L : LtOk lt) {l : List Keyed} {i : Nat} {p q : Keyed} (h : Srt lt l) (hp : l[i]? = some p) (hq : lt q p = false) : ∀ x ∈ l.take (i + 1), lt q x = false := fun x hx => by
  obtain ⟨j, hj⟩ := List.getElem?_of_mem hx
  have h1 := (List.getElem?_eq_some_iff.mp hj).1
  rw [List.length_take] at h1
  rw [List.getElem?_take_of_lt (by omega)] at hj
  exact L.tr x p q (srt_le L h (by omega) hj hp) hq
structure MhS (lt : Keyed -> Keyed -> Bool) (a b out : Array Keyed) (na nb : Nat) : Prop where
  m : Mh a b out na nb
  sa : Srt lt (a.toList.take na ++ out.toList.reverse)
  sb : Srt lt (b.toList.take nb ++ out.toList.reverse)
variable {a b out : Array Keyed} {na nb k : Nat} {p q : Keyed}
theorem MhS.pushA (h : MhS lt a b out na nb) (h1 : 1 <= na) (hp : a[na - 1]? = some q) (hq : ∀ x ∈ b.toList.take nb, lt q x = false) : MhS lt a b (out.push q) (na - 1) nb := by
  have hd : a.toList.take na = a.toList.take (na - 1) ++ [q] := by
    have := tk_snoc (l := a.toList) (i := na - 1) (p := q) (by simpa using hp)
    rwa [show na - 1 + 1 = na by omega] at this
  have h2 : Srt lt (a.toList.take (na - 1) ++ ([q] ++ out.toList.reverse)) := by
    have := h.sa; rw [hd, List.append_assoc] at this; exact this
  refine ⟨h.m.pushA h1 hp, ?_, ?_⟩
  · rw [Array.toList_push, List.reverse_append]; exact h2
  · rw [Array.toList_push, List.reverse_append]
    have := srt_four h.sb (srt_right h2) fun e he f hf => by rw [List.mem_singleton.mp hf]; exact hq e he
    rw [List.append_assoc] at this
    exact this
theorem MhS.pushB (h : MhS lt a b out na nb) (h1 : 1 <= nb) (hp : b[nb - 1]? = some q) (hq : ∀ x ∈ a.toList.take na, lt q x = false) : MhS lt a b (out.push q) na (nb - 1) := by
  have hd : b.toList.take nb = b.toList.take (nb - 1) ++ [q] := by
    have := tk_snoc (l := b.toList) (i := nb - 1) (p := q) (by simpa using hp)
    rwa [show nb - 1 + 1 = nb by omega] at this
  have h2 : Srt lt (b.toList.take (nb - 1) ++ ([q] ++ out.toList.reverse)) := by
    have := h.sb; rw [hd, List.append_assoc] at this; exact this
  refine ⟨h.m.pushB h1 hp, ?_, ?_⟩
  · rw [Array.toList_push, List.reverse_append]
    have := srt_four h.sa (srt_right h2) fun e he f hf => by rw [List.mem_singleton.mp hf]; exact hq e he
    rw [List.append_assoc] at this
    exact this
  · rw [Array.toList_push, List.reverse_append]; exact h2
theorem MhS.appA (h : MhS lt a b out na nb) (hk : k <= na) (hq : ∀ e ∈ b.toList.take nb, ∀ f ∈ (a.toList.drop k).take (na - k), lt f e = false) : MhS lt a b (out ++ (a.extract k na).reverse) k nb := by
  have hd := tk_ext a.toList k na hk
  have h2 : Srt lt (a.toList.take k ++ ((a.toList.drop k).take (na - k) ++ out.toList.reverse)) := by
    have := h.sa; rw [hd, List.append_assoc] at this; exact this
  have e : (out ++ (a.extract k na).reverse).toList.reverse = (a.toList.drop k).take (na - k) ++ out.toList.reverse := by
    rw [Array.toList_append, Array.toList_reverse, ext_list, List.reverse_append, List.reverse_reverse]
  refine ⟨h.m.appA hk, ?_, ?_⟩
  · rw [e]; exact h2
  · rw [e]
    have := srt_four h.sb (srt_right h2) hq
    rw [List.append_assoc] at this
    exact this
theorem MhS.appB (h : MhS lt a b out na nb) (hk : k <= nb) (hq : ∀ e ∈ a.toList.take na, ∀ f ∈ (b.toList.drop k).take (nb - k), lt f e = false) : MhS lt a b (out ++ (b.extract k nb).reverse) na k := by
  have hd := tk_ext b.toList k nb hk
  have h2 : Srt lt (b.toList.take k ++ ((b.toList.drop k).take (nb - k) ++ out.toList.reverse)) := by
    have := h.sb; rw [hd, List.append_assoc] at this; exact this
  have e : (out ++ (b.extract k nb).reverse).toList.reverse = (b.toList.drop k).take (nb - k) ++ out.toList.reverse := by
    rw [Array.toList_append, Array.toList_reverse, ext_list, List.reverse_append, List.reverse_reverse]
  refine ⟨h.m.appB hk, ?_, ?_⟩
  · rw [e]
    have := srt_four h.sa (srt_right h2) hq
    rw [List.append_assoc] at this
    exact this
  · rw [e]; exact h2
theorem MhS.endA (h : MhS lt a b out na nb) (e : na = 0) : FinS lt a b (a.extract 0 na ++ b.extract 0 nb ++ out.reverse) := by
  refine ⟨h.m.end1, ?_⟩
  rw [Array.toList_append, Array.toList_append, ext_list, ext_list, List.drop_zero, List.drop_zero, Nat.sub_zero, Nat.sub_zero, Array.toList_reverse, e, List.take_zero, List.nil_append]
  exact h.sb
theorem MhS.endB (h : MhS lt a b out na nb) (e : nb = 0) : FinS lt a b (a.extract 0 na ++ b.extract 0 nb ++ out.reverse) := by
  refine ⟨h.m.end1, ?_⟩
  rw [Array.toList_append, Array.toList_append, ext_list, ext_list, List.drop_zero, List.drop_zero, Nat.sub_zero, Nat.sub_zero, Array.toList_reverse, e, List.take_zero, List.append_nil]
  exact h.sa
theorem MhS.endF (h : MhS lt a b out na nb) (hl : ∀ e ∈ b.toList.take nb, ∀ f ∈ a.toList, lt f e = false) : FinS lt a b (b.extract 0 nb ++ a.extract 0 na ++ out.reverse) := by
  refine ⟨h.m.end2, ?_⟩
  rw [Array.toList_append, Array.toList_append, ext_list, ext_list, List.drop_zero, List.drop_zero, Nat.sub_zero, Nat.sub_zero, Array.toList_reverse]
  exact srt_four h.sb h.sa fun e he f hf => hl e he f (List.mem_of_mem_take hf)
theorem mem_take0 {l : List Keyed} {k : Nat} {e : Keyed} (h : e ∈ l.take k) : ∃ j, j < k /\ l[0 + j]? = some e := by
  obtain ⟨j, hj⟩ := List.getElem?_of_mem h
  have h1 := (List.getElem?_eq_some_iff.mp hj).1
  rw [List.length_take] at h1
  rw [List.getElem?_take_of_lt (by omega)] at hj
  exact ⟨j, by omega, by rw [Nat.zero_add]; exact hj⟩
theorem mhs_on {i g ac bc : Nat} {st st' : SortSt} (hg : IsG st st') (m : MhS lt a b out na nb) (q : 1 <= na) (r : 2 <= nb) (l1 : na <= a.size) (l2 : nb <= b.size) (t : na + nb + i + 2 <= a.size + b.size) : IsG st st' /\ ∃ ia' ib' out' g' ac' bc', ((none, na, nb, out, g, ac, bc) : Option (Array Keyed) × Nat × Nat × Array Keyed × Nat × Nat × Nat) = (none, ia', ib', out', g', ac', bc') /\ MhS lt a b out' ia' ib' /\ 1 <= ia' /\ 2 <= ib' /\ ia' <= a.size /\ ib' <= b.size /\ ia' + ib' + i + 2 <= a.size + b.size :=
  ⟨hg, _, _, _, _, _, _, rfl, m, q, r, l1, l2, t⟩
theorem mhs_done {i g ac bc : Nat} {st st' : SortSt} (hg : IsG st st') (m : MhS lt a b out na nb) (q : 1 <= na) (r : 2 <= nb) (l1 : na <= a.size) (l2 : nb <= b.size) (t : na + nb + i + 2 <= a.size + b.size) : IsG st st' /\ ((∃ out' z, ((none, na, nb, out, g, ac, bc) : Option (Array Keyed) × Nat × Nat × Array Keyed × Nat × Nat × Nat) = (some out', z) /\ FinS lt a b out') \/ ∃ ia' ib' out' g' ac' bc', ((none, na, nb, out, g, ac, bc) : Option (Array Keyed) × Nat × Nat × Array Keyed × Nat × Nat × Nat) = (none, ia', ib', out', g', ac', bc') /\ MhS lt a b out' ia' ib' /\ 1 <= ia' /\ 2 <= ib' /\ ia' <= a.size /\ ib' <= b.size /\ ia' + ib' + i + 2 <= a.size + b.size) :=
  ⟨hg, .inr (mhs_on hg m q r l1 l2 t).2⟩
end
section
variable {prog : Program} {w : World} {A : Around} {E : Value -> Shared -> Prop} {s : Shared} {kd : SortKind} {lt : Keyed -> Keyed -> Bool} {a₀ : Array Keyed}
theorem mHi_ok {st : SortSt} {a b : Array Keyed} {Q : Array Keyed -> SortSt -> Prop} (L : LtOk lt) (C : CmpOk prog w A E s kd lt a₀) (hk0 : kindOf st = kd) (ha : ∀ p ∈ a.toList, p ∈ a₀.toList) (hb : ∀ p ∈ b.toList, p ∈ a₀.toList) (na : 1 <= a.size) (nb : 1 <= b.size)
    (sa : Srt lt a.toList) (sb : Srt lt b.toList) (hf : ∀ x ∈ a.toList, ∀ q, b[0]? = some q -> lt x q = false) (hl : ∀ y, a[a.size - 1]? = some y -> ∀ e ∈ b.toList, lt y e = false)
    (h : ∀ out st', IsG st st' -> FinS lt a b out -> Q out st') : wpS (model prog w) A E s (mHi a b) Q st := by
  refine wpS_bind (wpS_lift (wpAny_rule ⟨rfl, ?_⟩))
  refine wpS_bind (wpS_el (show a.size - 1 < a.size by omega) fun p hp ep => ?_)
  have m0 : MhS lt a b #[p] (a.size - 1) b.size := (show MhS lt a b #[] a.size b.size from ⟨by unfold Mh; simp, by rw [List.take_of_length_le (by simp)]; simpa using sa, by rw [List.take_of_length_le (by simp)]; simpa using sb⟩).pushA na ep fun x hx => hl p ep x (List.mem_of_mem_take hx)
  have firstB : ∀ {out : Array Keyed} {ia ib : Nat}, MhS lt a b out ia ib -> ib = 1 -> FinS lt a b (b.extract 0 ib ++ a.extract 0 ia ++ out.reverse) := fun {out ia ib} m e => m.endF fun x hx f hf' => by
    subst e
    have e0 : b[0]? = some b[0] := getElem?_pos b 0 (by omega)
    obtain ⟨j, hj, ej⟩ := mem_take0 hx
    have hj0 : j = 0 := by omega
    subst hj0
    exact hf f hf' x (by simpa using ej)
  refine wpS_ite (fun g => ?_) (fun g => ?_)
  · exact wpS_pure (h _ _ (.refl _) (m0.endA (by simpa using g)))
  refine wpS_ite (fun g2 => ?_) (fun g2 => ?_)
  · exact wpS_pure (h _ _ (.refl _) (firstB m0 (by simpa using g2)))
  have g' : ¬ a.size - 1 = 0 := fun z => g (by simpa using z)
  have g2' : ¬ b.size = 1 := fun z => g2 (by simpa using z)
  refine wpS_bind (wpS_get ?_)
  refine wpS_bind (wpS_mono (wpS_forRange (I := fun i c st' => IsG st st' /\ ∃ ia ib out g, c = (none, ia, ib, out, g) /\ MhS lt a b out ia ib /\ 1 <= ia /\ 2 <= ib /\ ia <= a.size /\ ib <= b.size /\ ia + ib + i + 1 <= a.size + b.size)
    (Q := fun c st' => IsG st st' /\ ∃ out z, c = (some out, z) /\ FinS lt a b out) ?_ ?_ ?_) ?_)
  · rintro i c st1 _ hi ⟨hg, ia, ib, out, g, rfl, m1, h1, h2, l1, l2, h3⟩
    have hk1 : kindOf st1 = kd := by obtain ⟨g0, rfl⟩ := hg; exact hk0
    refine wpS_bind (wpS_mono (wpS_forRange (I := fun x c st' => st' = st1 /\ ∃ ia ib out ac bc, c = (none, ia, ib, out, ac, bc) /\ MhS lt a b out ia ib /\ 1 <= ia /\ 2 <= ib /\ ia <= a.size /\ ib <= b.size /\ ia + ib + i + 1 + x <= a.size + b.size)
      (Q := fun c st' => st' = st1 /\ ((∃ out z, c = (some out, z) /\ FinS lt a b out) \/ ∃ ia ib out ac bc, c = (none, ia, ib, out, ac, bc) /\ MhS lt a b out ia ib /\ 1 <= ia /\ 2 <= ib /\ ia <= a.size /\ ib <= b.size /\ ia + ib + i + 2 <= a.size + b.size)) ?_ ?_ ⟨rfl, ia, ib, out, 0, 0, rfl, m1, h1, h2, l1, l2, by omega⟩) ?_)
    · rintro x c st2 _ hx ⟨rfl, ia, ib, out, ac, bc, rfl, m1, h1, h2, l1, l2, h3⟩
      refine wpS_bind (wpS_el (show ib - 1 < b.size by omega) fun pb hpb eb => wpS_bind (wpS_el (show ia - 1 < a.size by omega) fun pa hpa ea => wpS_bind (C _ _ _ _ hk1 (hb _ hpb) (ha _ hpa) ?_)))
      have eib : ib - 1 + 1 = ib := by omega
      have eia : ia - 1 + 1 = ia := by omega
      cases ans : lt pb pa with
      | true =>
        refine wpS_bind (wpS_el (show ia - 1 < a.size by omega) fun q hq eq => ?_)
        have epq : q = pa := (Option.some.inj (ea.symm.trans eq)).symm
        have m2 := m1.pushA h1 eq (by
          have := srt_upto L sb (i := ib - 1) (p := pb) (q := q) (by simpa using eb) (by rw [epq]; exact L.asym _ _ ans)
          rw [eib] at this; exact this)
        refine wpS_ite (fun z => wpS_pure ⟨rfl, .inl ⟨_, _, rfl, m2.endA (by simpa using z)⟩⟩) (fun z => ?_)
        have z' : ¬ ia - 1 = 0 := fun y => z (by simpa using y)
        exact wpS_ite (fun _ => wpS_pure ⟨rfl, .inr ⟨ia - 1, ib, _, _, _, rfl, m2, by omega, h2, by omega, l2, by omega⟩⟩) (fun _ => wpS_pure ⟨rfl, ia - 1, ib, _, _, _, rfl, m2, by omega, h2, by omega, l2, by omega⟩)
      | false =>
        refine wpS_bind (wpS_el (show ib - 1 < b.size by omega) fun q hq eq => ?_)
        have epq : q = pb := (Option.some.inj (eb.symm.trans eq)).symm
        have m2 := m1.pushB (by omega) eq (by
          have := srt_upto L sa (i := ia - 1) (p := pa) (q := q) (by simpa using ea) (by rw [epq]; exact ans)
          rw [eia] at this; exact this)
        refine wpS_ite (fun z => wpS_pure ⟨rfl, .inl ⟨_, _, rfl, firstB m2 (by simpa using z)⟩⟩) (fun z => ?_)
        have z' : ¬ ib - 1 = 1 := fun y => z (by simpa using y)
        exact wpS_ite (fun _ => wpS_pure ⟨rfl, .inr ⟨ia, ib - 1, _, _, _, rfl, m2, h1, by omega, l1, by omega, by omega⟩⟩) (fun _ => wpS_pure ⟨rfl, ia, ib - 1, _, _, _, rfl, m2, h1, by omega, l1, by omega, by omega⟩)
    · rintro c st2 ⟨e2, ia, ib, out, ac, bc, rfl, m1, h1, h2, l1, l2, h3⟩
      exact ⟨e2, .inr ⟨_, _, _, _, _, rfl, m1, h1, h2, l1, l2, by omega⟩⟩
    · rintro c st2 ⟨rfl, ⟨out, z, rfl, pf⟩ | ⟨ia, ib, out, ac, bc, rfl, m1, h1, h2, l1, l2, h3⟩⟩
      · exact wpS_pure ⟨hg, out, _, rfl, pf⟩
      refine wpS_bind (wpS_lift (wpAny_rule ⟨rfl, ?_⟩))
      refine wpS_bind (wpS_mono (wpS_forRange (I := fun x c st' => IsG st st' /\ ∃ ia ib out g ac bc, c = (none, ia, ib, out, g, ac, bc) /\ MhS lt a b out ia ib /\ 1 <= ia /\ 2 <= ib /\ ia <= a.size /\ ib <= b.size /\ ia + ib + i + 2 <= a.size + b.size)
        (Q := fun c st' => IsG st st' /\ ((∃ out z, c = (some out, z) /\ FinS lt a b out) \/ ∃ ia ib out g ac bc, c = (none, ia, ib, out, g, ac, bc) /\ MhS lt a b out ia ib /\ 1 <= ia /\ 2 <= ib /\ ia <= a.size /\ ib <= b.size /\ ia + ib + i + 2 <= a.size + b.size)) ?_ ?_ ⟨hg, ia, ib, out, _, ac, bc, rfl, m1, h1, h2, l1, l2, h3⟩) ?_)
      · rintro x c st3 _ hx ⟨hg3, ia, ib, out, gg, ac, bc, rfl, m1, h1, h2, l1, l2, h3⟩
        have hk3 : kindOf st3 = kd := by obtain ⟨g0, rfl⟩ := hg3; exact hk0
        have eib : ib - 1 + 1 = ib := by omega
        refine wpS_ite (fun _ => ?_) (fun _ => ?_)
        all_goals
          refine wpS_bind (wpS_modify ?_)
          refine wpS_bind (wpS_el (show ib - 1 < b.size by omega) fun pb hpb eb => wpS_bind (gal_ok C hk3 (hb _ hpb) ha (show 0 + ia <= a.size by omega) (show ia - 1 < ia by omega) (mono_right L pb (show 0 + ia <= a.size by omega) (srt_sub sa _ _)) fun k hk' y1 y2 => ?_))
          have hk : k <= ia := hk'
          have y2' : ∀ i, k <= i -> i < ia -> beyN lt false pb a 0 i = false := y2
          have pbl : ∀ x ∈ b.toList.take ib, lt pb x = false := by
            have := srt_upto L sb (i := ib - 1) (p := pb) (q := pb) (by simpa using eb) (irr L pb)
            rw [eib] at this; exact this
          have c1 : ∀ e ∈ b.toList.take ib, ∀ f ∈ (a.toList.drop k).take (ia - k), lt f e = false := fun e he f hf' => by
            obtain ⟨j, hj, ej⟩ := mem_take_drop hf'
            have := y2' (k + j) (by omega) (by omega)
            rw [bey_right (x := f) (by rw [Nat.zero_add]; exact ej)] at this
            exact L.tr e pb f (pbl e he) (L.asym _ _ (by simpa using this))
          have c2 : ∀ x ∈ a.toList.take k, lt pb x = false := fun x hx => by
            obtain ⟨j, hj, ej⟩ := mem_take0 hx
            have := y1 j hj
            rw [bey_right ej] at this
            simpa using this
          refine wpS_ite (fun hk1 => wpS_ite (fun z => wpS_pure ⟨hg3.set _, .inl ⟨_, _, rfl, (m1.appA hk c1).endA (by simpa using z)⟩⟩) (fun z1 => ?_)) (fun hk1 => ?_)
          all_goals first
            | (have m2 := m1.appA hk c1
               have c3 := c2
               have z1' : ¬ k = 0 := fun e => z1 (by simpa using e)
               have q1 : 1 <= k := by omega
               have q2 : k <= a.size := by omega
               have q3 : k + ib + i + 2 <= a.size + b.size := by omega)
            | (have m2 := m1
               have ek : k = ia := Nat.le_antisymm hk (Nat.le_of_sub_eq_zero (Nat.eq_zero_of_not_pos hk1))
               have c3 : ∀ x ∈ a.toList.take ia, lt pb x = false := by rw [ek] at c2; exact c2
               have q1 := h1
               have q2 := l1
               have q3 := h3)
          all_goals
            refine wpS_bind (wpS_el (show ib - 1 < b.size by omega) fun pc hpc ec => ?_)
            have epc : pc = pb := (Option.some.inj (eb.symm.trans ec)).symm
            subst epc
            have m3 := m2.pushB (by omega) ec c3
            refine wpS_ite (fun z => wpS_pure ⟨hg3.set _, .inl ⟨_, _, rfl, firstB m3 (by simpa using z)⟩⟩) (fun z3 => ?_)
            have z3' : ¬ ib - 1 = 1 := fun e => z3 (by simpa using e)
            refine wpS_bind (wpS_el (lt_pred q1 q2) fun pd hpd ed => wpS_bind (gal_ok C hk3 (ha _ hpd) hb (show 0 + (ib - 1) <= b.size by omega) (show ib - 1 - 1 < ib - 1 by omega) (mono_left L pd (show 0 + (ib - 1) <= b.size by omega) (srt_sub sb _ _)) fun k2 hk2' y3 y4 => ?_))
            have hk2 : k2 <= ib - 1 := hk2'
            have y4' : ∀ i, k2 <= i -> i < ib - 1 -> beyN lt true pd b 0 i = false := y4
            have pdl := srt_upto L sa (p := pd) (q := pd) (by simpa using ed) (irr L pd)
            rw [Nat.sub_add_cancel q1] at pdl
            have c4 : ∀ e ∈ a.toList.take _, ∀ f ∈ (b.toList.drop k2).take (ib - 1 - k2), lt f e = false := fun e he f hf' => by
              obtain ⟨j, hj, ej⟩ := mem_take_drop hf'
              have := y4' (k2 + j) (by omega) (by omega)
              rw [bey_left (x := f) (by rw [Nat.zero_add]; exact ej)] at this
              exact L.tr e pd f (pdl e he) this
            have c5 : ∀ x ∈ b.toList.take k2, lt pd x = false := fun x hx => by
              obtain ⟨j, hj, ej⟩ := mem_take0 hx
              have := y3 j hj
              rw [bey_left ej] at this
              exact L.asym _ _ this
            refine wpS_ite (fun hk3' => wpS_ite (fun z => wpS_pure ⟨hg3.set _, .inl ⟨_, _, rfl, firstB (m3.appB hk2 c4) (by simpa using z)⟩⟩) (fun z4 => wpS_ite (fun z => wpS_pure ⟨hg3.set _, .inl ⟨_, _, rfl, (m3.appB hk2 c4).endB (by simpa using z)⟩⟩) (fun z5 => ?_))) (fun hk3' => ?_)
            all_goals first
              | (have m4 := m3.appB hk2 c4
                 have c6 := c5
                 have z4' : ¬ k2 = 1 := fun e => z4 (by simpa using e)
                 have z5' : ¬ k2 = 0 := fun e => z5 (by simpa using e)
                 have r1 : 2 <= k2 := by omega
                 have r2 : k2 <= b.size := by omega
                 have r3 : k2 <= ib := by omega)
              | (have m4 := m3
                 have ek2 : k2 = ib - 1 := Nat.le_antisymm hk2 (Nat.le_of_sub_eq_zero (Nat.eq_zero_of_not_pos hk3'))
                 have c6 : ∀ x ∈ b.toList.take (ib - 1), lt pd x = false := by rw [ek2] at c5; exact c5
                 have r1 : 2 <= ib - 1 := by omega
                 have r2 : ib - 1 <= b.size := by omega
                 have r3 : ib - 1 <= ib := by omega)
            all_goals
              refine wpS_bind (wpS_el (lt_pred q1 q2) fun pe hpe ee => ?_)
              have epe : pe = pd := (Option.some.inj (ed.symm.trans ee)).symm
              subst epe
              have m5 := m4.pushA q1 ee c6
              refine wpS_ite (fun z => wpS_pure ⟨hg3.set _, .inl ⟨_, _, rfl, m5.endA (by simpa using z)⟩⟩) (fun z6 => ?_)
              have q5 := pos_ne (fun e => z6 (by simpa using e))
              exact wpS_ite (fun _ => wpS_pure (mhs_done (hg3.set _) m5 q5 r1 (le_pred q2) r2 (le_on2 q3 r3))) (fun _ => wpS_pure (mhs_on (hg3.set _) m5 q5 r1 (le_pred q2) r2 (le_on2 q3 r3)))
      · rintro c st3 ⟨hg3, ia, ib, out, gg, ac, bc, rfl, m1, h1, h2, l1, l2, h3⟩
        exact ⟨hg3, .inr ⟨_, _, _, _, _, _, rfl, m1, h1, h2, l1, l2, h3⟩⟩
      · rintro c st3 ⟨hg3, ⟨out, z, rfl, pf⟩ | ⟨ia, ib, out, g, ac, bc, rfl, m1, h1, h2, l1, l2, h3⟩⟩
        · exact wpS_pure ⟨hg3, out, _, rfl, pf⟩
        · exact wpS_bind (wpS_modify (wpS_pure ⟨hg3.set _, ia, ib, _, _, rfl, m1, h1, h2, l1, l2, by omega⟩))
  · rintro c st1 ⟨hg, ia, ib, out, g, rfl, m1, h1, h2, l1, l2, h3⟩
    exfalso
    omega
  · exact ⟨.refl _, a.size - 1, b.size, _, _, rfl, m0, by omega, by omega, by omega, by omega, by omega⟩
  · rintro c st' ⟨hg, out, z, rfl, hp⟩
    exact wpS_pure (h _ _ hg hp)
end
end L2
set_option maxHeartbeats 1000000
namespace L2
open PySem PySem.Spec PyProof.Rows
section
variable {lt : Keyed -> Keyed -> Bool}
theorem srt_app {x y : List Keyed} (hx : Srt lt x) (hy : Srt lt y) (h : ∀ e ∈ x, ∀ f ∈ y, lt f e = false) : Srt lt (x ++ y) := List.pairwise_append.mpr ⟨hx, hy, h⟩
theorem head_le (L : LtOk lt) {l : List Keyed} {q e : Keyed} (h : Srt lt l) (h0 : l[0]? = some q) (he : lt q e = false) : ∀ f ∈ l, lt f e = false := by
  have := srt_from L h h0 he
  rwa [List.drop_zero] at this
theorem le_last (L : LtOk lt) {l : List Keyed} {y f : Keyed} (h : Srt lt l) (h0 : l[l.length - 1]? = some y) (hf : lt f y = false) : ∀ e ∈ l, lt f e = false := fun e he => by
  have hl := (List.getElem?_eq_some_iff.mp h0).1
  have := srt_upto L h h0 hf
  rw [show l.length - 1 + 1 = l.length by omega, List.take_length] at this
  exact this e he
theorem merge_srt (L : LtOk lt) {x y merged : List Keyed} {k m : Nat} {q z : Keyed} (sx : Srt lt x) (sy : Srt lt y) (h0 : y[0]? = some q) (hz : x[x.length - 1]? = some z) (h1 : ∀ e ∈ x.take k, lt q e = false) (h2 : ∀ e ∈ y.drop m, lt e z = false) (pm : merged.Perm (x.drop k ++ y.take m)) (sm : Srt lt merged) :
    Srt lt (x.take k ++ merged ++ y.drop m) := by
  have hyq : ∀ f ∈ y, ∀ e ∈ x.take k, lt f e = false := fun f hf e he => head_le L sy h0 (h1 e he) f hf
  have hxz : ∀ f ∈ y.drop m, ∀ e ∈ x, lt f e = false := fun f hf e he => le_last L sx hz (h2 f hf) e he
  have sx' : Srt lt (x.take k ++ x.drop k) := by rw [List.take_append_drop]; exact sx
  have sy' : Srt lt (y.take m ++ y.drop m) := by rw [List.take_append_drop]; exact sy
  refine srt_app (srt_app (srt_left sx') sm fun e he f hf => ?_) (srt_right sy') fun e he f hf => ?_
  · rcases List.mem_append.mp (pm.mem_iff.mp hf) with g | g
    · exact (List.pairwise_append.mp sx').2.2 e he f g
    · exact hyq f (List.mem_of_mem_take g) e he
  · rcases List.mem_append.mp he with g | g
    · exact hyq f (List.mem_of_mem_drop hf) e g
    · rcases List.mem_append.mp (pm.mem_iff.mp g) with g | g
      · exact hxz f hf e (List.mem_of_mem_drop g)
      · exact (List.pairwise_append.mp sy').2.2 e g f hf
structure PKd (kd : SortKind) (a₀ : Array Keyed) (st : SortSt) : Prop where
  perm : (arrOf st).Perm a₀
  kind : kindOf st = kd
  failed : failedOf st = none
theorem at_app {α : Type} {pre l : List α} {i : Nat} : (pre ++ l)[pre.length + i]? = l[i]? := by rw [List.getElem?_append_right (by omega), Nat.add_sub_cancel_left]
theorem at_mid {α : Type} {pre x post : List α} {i : Nat} (h : i < x.length) : (pre ++ x ++ post)[pre.length + i]? = x[i]? := by
  rw [List.append_assoc, at_app, List.getElem?_append_left h]
theorem rev_list {α : Type} {pre x post : List α} {arr : Array α} (e : arr.toList = pre ++ x ++ post) : (mirror arr pre.length (pre.length + x.length) ((pre.length + x.length - pre.length) / 2)).toList = pre ++ x.reverse ++ post := by
  have hsz : arr.size = pre.length + x.length + post.length := by rw [<- Array.length_toList, e]; simp; omega
  refine List.ext_getElem? fun k => ?_
  rw [Array.getElem?_toList, getElem?_mirror_all (i := pre.length) (j := pre.length + x.length) (by omega) k]
  by_cases h : pre.length <= k /\ k < pre.length + x.length
  · rw [if_pos h, <- Array.getElem?_toList, e]
    rw [List.getElem?_append_left (by rw [List.length_append]; omega), List.getElem?_append_right (by omega)]
    rw [List.getElem?_append_left (by rw [List.length_append, List.length_reverse]; omega), List.getElem?_append_right (by omega), List.getElem?_reverse (by omega)]
    congr 1
    omega
  · rw [if_neg h, <- Array.getElem?_toList, e]
    by_cases g : k < pre.length
    · rw [List.append_assoc, List.append_assoc, List.getElem?_append_left g, List.getElem?_append_left g]
    · rw [List.getElem?_append_right (by rw [List.length_append]; omega), List.getElem?_append_right (by rw [List.length_append, List.length_reverse]; omega), List.length_append, List.length_append, List.length_reverse]
theorem bub_list {α : Type} {pre x post : List α} {q : α} {arr : Array α} {l : Nat} (e : arr.toList = pre ++ x ++ q :: post) (hl : l <= x.length) : (bubble arr (pre.length + x.length) (pre.length + x.length - (pre.length + l))).toList = pre ++ (x.take l ++ q :: x.drop l) ++ post := by
  have hsz : arr.size = pre.length + x.length + (post.length + 1) := by rw [<- Array.length_toList, e]; simp; omega
  have hq : arr[pre.length + x.length]? = some q := by
    rw [<- Array.getElem?_toList, e, List.getElem?_append_right (by rw [List.length_append]; omega), List.length_append, Nat.sub_self]; rfl
  refine List.ext_getElem? fun k => ?_
  rw [Array.getElem?_toList, getElem?_bubble (by omega) _ (by omega) k, show pre.length + x.length - (pre.length + x.length - (pre.length + l)) = pre.length + l by omega]
  by_cases h1 : k = pre.length + l
  · rw [if_pos h1, hq, h1]
    rw [at_mid (by simp; omega), List.getElem?_append_right (by rw [List.length_take]; omega), List.length_take, Nat.min_eq_left hl, Nat.sub_self]
    rfl
  · rw [if_neg h1]
    by_cases h2 : pre.length + l < k /\ k <= pre.length + x.length
    · rw [if_pos h2, <- Array.getElem?_toList, e]
      obtain ⟨j, rfl⟩ : ∃ j, k = pre.length + (l + 1 + j) := ⟨k - pre.length - l - 1, by omega⟩
      rw [show pre.length + (l + 1 + j) - 1 = pre.length + (l + j) by omega, at_mid (by omega), at_mid (by simp; omega), List.getElem?_append_right (by rw [List.length_take]; omega), List.length_take, Nat.min_eq_left hl, show l + 1 + j - l = j + 1 by omega, List.getElem?_cons_succ, List.getElem?_drop]
    · rw [if_neg h2, <- Array.getElem?_toList, e]
      by_cases h3 : k < pre.length + l
      · by_cases h4 : k < pre.length
        · rw [List.append_assoc, List.append_assoc, List.getElem?_append_left h4, List.getElem?_append_left h4]
        · obtain ⟨j, rfl⟩ : ∃ j, k = pre.length + j := ⟨k - pre.length, by omega⟩
          rw [at_mid (by omega), at_mid (by simp; omega), List.getElem?_append_left (by rw [List.length_take]; omega), List.getElem?_take_of_lt (by omega)]
      · rw [List.getElem?_append_right (by rw [List.length_append]; omega), List.getElem?_append_right (by simp; omega)]
        simp only [List.length_append, List.length_cons, List.length_take, List.length_drop]
        rw [show k - (pre.length + x.length) = k - (pre.length + x.length) - 1 + 1 by omega, List.getElem?_cons_succ]
        congr 1
        omega
end
section
variable {prog : Program} {w : World} {A : Around} {E : Value -> Shared -> Prop} {s : Shared} {kd : SortKind} {lt : Keyed -> Keyed -> Bool} {a₀ : Array Keyed}
theorem PKd.size {st : SortSt} (h : PKd kd a₀ st) : (arrOf st).size = a₀.size := h.perm.size_eq
theorem PKd.mem {st : SortSt} (h : PKd kd a₀ st) {p : Keyed} (hp : p ∈ (arrOf st).toList) : p ∈ a₀.toList := (Array.perm_iff_toList_perm.mp h.perm).mem_iff.mp hp
theorem PKd.set {st : SortSt} (h : PKd kd a₀ st) {xs : Array Keyed} (hp : xs.toList.Perm (arrOf st).toList) : PKd kd a₀ (setArr st xs) := ⟨(Array.perm_iff_toList_perm.mpr hp).trans h.perm, h.kind, h.failed⟩
theorem ltA_ok {st : SortSt} {i j : Nat} {p q : Keyed} {Q : Option Bool -> SortSt -> Prop} (C : CmpOk prog w A E s kd lt a₀) (hB : PKd kd a₀ st) (hi : (arrOf st).toList[i]? = some p) (hj : (arrOf st).toList[j]? = some q) (h : Q (some (lt p q)) st) : wpS (model prog w) A E s (ltAt' i j) Q st := by
  rw [ltAt'_eq]
  refine wpS_bind (wpS_get ?_)
  have li := (List.getElem?_eq_some_iff.mp hi).1
  have lj := (List.getElem?_eq_some_iff.mp hj).1
  rw [Array.length_toList] at li lj
  refine wpS_bind (wpS_el (show i < (arrOf st).size from li) fun p' hp ep => wpS_bind (wpS_el (show j < (arrOf st).size from lj) fun q' hq eq => ?_))
  have e1 : p' = p := by rw [Array.getElem?_toList, ep] at hi; exact Option.some.inj hi
  have e2 : q' = q := by rw [Array.getElem?_toList, eq] at hj; exact Option.some.inj hj
  subst e1
  subst e2
  exact C _ _ _ _ hB.kind (hB.mem hp) (hB.mem hq) h
theorem mergeAt_ok {st : SortSt} {i pw pw2 : Nat} {pre x y post : List Keyed} {Q : Bool -> SortSt -> Prop} (L : LtOk lt) (C : CmpOk prog w A E s kd lt a₀) (hB : PKd kd a₀ st) (hi : (pendingOf st)[i]? = some (pre.length, x.length, pw)) (hj : (pendingOf st)[i + 1]? = some (pre.length + x.length, y.length, pw2))
    (ea : (arrOf st).toList = pre ++ x ++ y ++ post) (hx : x ≠ []) (hy : y ≠ []) (sx : Srt lt x) (sy : Srt lt y)
    (h : ∀ st' z, PKd kd a₀ st' -> pendingOf st' = ((pendingOf st).setIfInBounds i (pre.length, x.length + y.length, pw)).eraseIdxIfInBounds (i + 1) -> z.Perm (x ++ y) -> Srt lt z -> (arrOf st').toList = pre ++ z ++ post -> Q true st') : wpS (model prog w) A E s (mergeAt' i) Q st := by
  have hm : ∀ p ∈ (arrOf st).toList, p ∈ a₀.toList := fun p hp => hB.mem hp
  have lx := List.length_pos_iff.mpr hx
  have ly := List.length_pos_iff.mpr hy
  have hz : (arrOf st).size = pre.length + x.length + y.length + post.length := by rw [<- Array.length_toList, ea]; simp only [List.length_append]
  have atx : ∀ j, j < x.length -> (arrOf st).toList[pre.length + j]? = x[j]? := fun j hj => by rw [ea, List.append_assoc, at_mid hj]
  have aty : ∀ j, j < y.length -> (arrOf st).toList[pre.length + x.length + j]? = y[j]? := fun j hj => by
    rw [ea, <- List.length_append, at_mid hj]
  have dx : ((arrOf st).toList.drop pre.length).take x.length = x := by rw [ea, List.append_assoc, List.append_assoc, List.drop_left, List.take_left]
  have dy : ((arrOf st).toList.drop (pre.length + x.length)).take y.length = y := by rw [ea, <- List.length_append, List.append_assoc (pre ++ x), List.drop_left, List.take_left]
  have hy0 : y[0]? = some y[0] := List.getElem?_eq_getElem ly
  have hxl : x[x.length - 1]? = some x[x.length - 1] := List.getElem?_eq_getElem (by omega)
  refine wpS_bind (wpS_get ?_)
  simp only [hi, hj]
  refine wpS_bind (wpS_set ?_)
  refine wpS_bind (wpS_el (show pre.length + x.length < (arrOf st).size by omega) fun pb hpb eb => wpS_bind (gal_ok C hB.kind (hm _ hpb) hm (show pre.length + x.length <= (arrOf st).size by omega) (show 0 < x.length by omega) (mono_right L pb (show pre.length + x.length <= (arrOf st).size by omega) (by rw [dx]; exact sx)) fun k hk y1 y2 => ?_))
  have hk' : k <= x.length := hk
  have epb : pb = y[0] := by
    have := aty 0 ly
    rw [Nat.add_zero, Array.getElem?_toList, eb, hy0] at this
    exact Option.some.inj this
  subst epb
  have b1 : ∀ e ∈ x.take k, lt y[0] e = false := fun e he => by
    obtain ⟨j, hj, ej⟩ := mem_take0 he
    rw [Nat.zero_add] at ej
    have := y1 j hj
    rw [bey_right (x := e) (by rw [atx j (by omega)]; exact ej)] at this
    simpa using this
  have b2 : ∀ e ∈ x.drop k, lt e y[0] = false := fun e he => by
    obtain ⟨j, ej⟩ := mem_drop he
    have hlt := (List.getElem?_eq_some_iff.mp ej).1
    have := (show ∀ i, k <= i -> i < x.length -> beyN lt false y[0] (arrOf st) pre.length i = false from y2) (k + j) (by omega) hlt
    rw [bey_right (x := e) (by rw [atx _ hlt]; exact ej)] at this
    exact L.asym _ _ (by simpa using this)
  refine wpS_ite (fun g => ?_) (fun g => ?_)
  · have g' : x.length - k = 0 := by simpa using g
    have ek : k = x.length := by omega
    rw [ek, List.take_length] at b1
    exact wpS_pure (h _ (x ++ y) ⟨hB.perm, hB.kind, hB.failed⟩ rfl (List.Perm.refl _) (srt_app sx sy fun e he f hf => head_le L sy hy0 (b1 e he) f hf) (by rw [<- List.append_assoc]; exact ea))
  have g' : ¬ x.length - k = 0 := fun e => g (by simpa using e)
  refine wpS_bind (wpS_el (show pre.length + k + (x.length - k) - 1 < (arrOf st).size by omega) fun pa hpa ep => wpS_bind (gal_ok C hB.kind (hm _ hpa) hm (show pre.length + x.length + y.length <= (arrOf st).size by omega) (show y.length - 1 < y.length by omega) (mono_left L pa (show pre.length + x.length + y.length <= (arrOf st).size by omega) (by rw [dy]; exact sy)) fun m hm' y3 y4 => ?_))
  have hm2 : m <= y.length := hm'
  have epa : pa = x[x.length - 1] := by
    have := atx (x.length - 1) (by omega)
    rw [Array.getElem?_toList, show pre.length + (x.length - 1) = pre.length + k + (x.length - k) - 1 by omega, hxl] at this
    rw [ep] at this
    exact Option.some.inj this
  subst epa
  have c1 : ∀ e ∈ y.take m, lt x[x.length - 1] e = false := fun e he => by
    obtain ⟨j, hj, ej⟩ := mem_take0 he
    rw [Nat.zero_add] at ej
    have := y3 j hj
    rw [bey_left (x := e) (by rw [aty j (by omega)]; exact ej)] at this
    exact L.asym _ _ this
  have c2 : ∀ e ∈ y.drop m, lt e x[x.length - 1] = false := fun e he => by
    obtain ⟨j, ej⟩ := mem_drop he
    have hlt := (List.getElem?_eq_some_iff.mp ej).1
    have := (show ∀ i, m <= i -> i < y.length -> beyN lt true x[x.length - 1] (arrOf st) (pre.length + x.length) i = false from y4) (m + j) (by omega) hlt
    rw [bey_left (x := e) (by rw [aty _ hlt]; exact ej)] at this
    exact this
  refine wpS_ite (fun g2 => ?_) (fun g2 => ?_)
  · have g3 : m = 0 := by simpa using g2
    rw [g3, List.drop_zero] at c2
    exact wpS_pure (h _ (x ++ y) ⟨hB.perm, hB.kind, hB.failed⟩ rfl (List.Perm.refl _) (srt_app sx sy fun e he f hf => le_last L sx hxl (c2 f hf) e he) (by rw [<- List.append_assoc]; exact ea))
  have g3 : ¬ m = 0 := fun e => g2 (by simpa using e)
  have ex : ((arrOf st).extract (pre.length + k) (pre.length + x.length)).toList = x.drop k := by
    rw [ext_list, ea, List.append_assoc, List.append_assoc, List.drop_append, List.drop_of_length_le (by omega), List.nil_append, Nat.add_sub_cancel_left, List.drop_append_of_le_length hk', List.take_append_of_le_length (by rw [List.length_drop]; omega), List.take_of_length_le (by rw [List.length_drop]; omega)]
  have ey : ((arrOf st).extract (pre.length + x.length) (pre.length + x.length + m)).toList = y.take m := by
    rw [ext_list, ea, <- List.length_append, List.append_assoc (pre ++ x), List.drop_left, Nat.add_sub_cancel_left, List.take_append_of_le_length hm2]
  have sxk : Srt lt (x.drop k) := sx.sublist (List.drop_sublist _ _)
  have sym : Srt lt (y.take m) := sy.sublist (List.take_sublist _ _)
  have sX : ((arrOf st).extract (pre.length + k) (pre.length + x.length)).size = x.length - k := by rw [<- Array.length_toList, ex, List.length_drop]
  have sY : ((arrOf st).extract (pre.length + x.length) (pre.length + x.length + m)).size = m := by rw [<- Array.length_toList, ey, List.length_take]; omega
  have mx : ∀ p ∈ ((arrOf st).extract (pre.length + k) (pre.length + x.length)).toList, p ∈ a₀.toList := fun p hp => hm p (by rw [ext_list] at hp; exact List.mem_of_mem_drop (List.mem_of_mem_take hp))
  have my : ∀ p ∈ ((arrOf st).extract (pre.length + x.length) (pre.length + x.length + m)).toList, p ∈ a₀.toList := fun p hp => hm p (by rw [ext_list] at hp; exact List.mem_of_mem_drop (List.mem_of_mem_take hp))
  have hf : ∀ e ∈ ((arrOf st).extract (pre.length + k) (pre.length + x.length)).toList, ∀ q, ((arrOf st).extract (pre.length + x.length) (pre.length + x.length + m))[0]? = some q -> lt e q = false := fun e he q hq => by
    rw [ex] at he
    rw [<- Array.getElem?_toList, ey, List.getElem?_take_of_lt (by omega), hy0] at hq
    rw [<- Option.some.inj hq]
    exact b2 e he
  have hl : ∀ z, ((arrOf st).extract (pre.length + k) (pre.length + x.length))[((arrOf st).extract (pre.length + k) (pre.length + x.length)).size - 1]? = some z -> ∀ e ∈ ((arrOf st).extract (pre.length + x.length) (pre.length + x.length + m)).toList, lt z e = false := fun z hz' e he => by
    rw [ey] at he
    rw [<- Array.getElem?_toList, ex, sX, List.getElem?_drop, show k + (x.length - k - 1) = x.length - 1 by omega, hxl] at hz'
    rw [<- Option.some.inj hz']
    exact c1 e he
  have ef : (failedOf st).isNone = true := by rw [hB.failed]; rfl
  have endm : ∀ (out : Array Keyed) (g : Nat), FinS lt ((arrOf st).extract (pre.length + k) (pre.length + x.length)) ((arrOf st).extract (pre.length + x.length) (pre.length + x.length + m)) out -> Q true (SortSt.mk' (kindOf st) (out.toList.zipIdx.foldl (fun a q => match q with | (p, j) => a.setIfInBounds (pre.length + k + j) p) (arrOf st)) (((pendingOf st).setIfInBounds i (pre.length, x.length + y.length, pw)).eraseIdxIfInBounds (i + 1)) g (failedOf st)) := fun out g ⟨hp, hs⟩ => by
    have hp' := hp
    rw [ex, ey] at hp'
    have hol : out.toList.length = x.length - k + m := by rw [hp'.length_eq, List.length_append, List.length_drop, List.length_take]; omega
    have el := lay_back (pre.length + k) out.toList 0 (arrOf st) (by omega)
    rw [Nat.add_zero, hol, show pre.length + k + (x.length - k + m) = pre.length + x.length + m by omega] at el
    have e1 : (arrOf st).toList.take (pre.length + k) = pre ++ x.take k := by
      rw [ea, List.append_assoc, List.append_assoc, List.take_append, List.take_of_length_le (by omega), Nat.add_sub_cancel_left, List.take_append_of_le_length hk']
    have e2 : (arrOf st).toList.drop (pre.length + x.length + m) = y.drop m ++ post := by
      rw [ea, <- List.length_append, List.append_assoc (pre ++ x), List.drop_append, List.drop_of_length_le (by omega), List.nil_append, Nat.add_sub_cancel_left, List.drop_append_of_le_length hm2]
    rw [e1, e2] at el
    refine h _ (x.take k ++ out.toList ++ y.drop m) ⟨(laid_perm (arr := arrOf st) (x := pre.length + k) (y := pre.length + x.length) (z := pre.length + x.length + m) (by omega) (by omega) (by omega) hp).trans hB.perm, hB.kind, hB.failed⟩ rfl ?_ (merge_srt L sx sy hy0 hxl b1 c2 hp' hs) ?_
    · refine ((List.Perm.append_left _ hp').append_right _).trans ?_
      rw [<- List.append_assoc, List.take_append_drop, List.append_assoc, List.take_append_drop]
    · refine el.trans ?_
      simp only [List.append_assoc]
  refine wpS_ite (fun _ => ?_) (fun _ => ?_)
  · refine wpS_bind (mLo_ok L C hB.kind mx my (show 1 <= ((arrOf st).extract (pre.length + k) (pre.length + x.length)).size by omega) (show 1 <= ((arrOf st).extract (pre.length + x.length) (pre.length + x.length + m)).size by omega) (by rw [ex]; exact sxk) (by rw [ey]; exact sym) hf hl fun out st' hg hfin => ?_)
    obtain ⟨g0, rfl⟩ := hg
    refine wpS_bind (wpS_modify (wpS_bind (wpS_get (wpS_pure ?_))))
    show Q ((failedOf st).isNone) _
    rw [ef]
    exact endm out g0 hfin
  · refine wpS_bind (mHi_ok L C hB.kind mx my (show 1 <= ((arrOf st).extract (pre.length + k) (pre.length + x.length)).size by omega) (show 1 <= ((arrOf st).extract (pre.length + x.length) (pre.length + x.length + m)).size by omega) (by rw [ex]; exact sxk) (by rw [ey]; exact sym) hf hl fun out st' hg hfin => ?_)
    obtain ⟨g0, rfl⟩ := hg
    refine wpS_bind (wpS_modify (wpS_bind (wpS_get (wpS_pure ?_))))
    show Q ((failedOf st).isNone) _
    rw [ef]
    exact endm out g0 hfin
theorem bin_ok {st : SortSt} {pre x rest : List Keyed} {n : Nat} {Q : Bool -> SortSt -> Prop} (L : LtOk lt) (C : CmpOk prog w A E s kd lt a₀) (hB : PKd kd a₀ st) (ea : (arrOf st).toList = pre ++ x ++ rest) (hx : x ≠ []) (sx : Srt lt x) (hn : n <= x.length + rest.length) (hxn : x.length <= n)
    (h : ∀ st' z rest', PKd kd a₀ st' -> pendingOf st' = pendingOf st -> (arrOf st').toList = pre ++ z ++ rest' -> z.length = n -> Srt lt z -> Q true st') : wpS (model prog w) A E s (binarySort' pre.length n x.length) Q st := by
  have lx := List.length_pos_iff.mpr hx
  refine wpS_bind (wpS_mono (wpS_forRange (I := fun k c st' => c = (none, ()) /\ PKd kd a₀ st' /\ pendingOf st' = pendingOf st /\ ∃ z r, (arrOf st').toList = pre ++ z ++ r /\ z.length = k /\ z.length + r.length = x.length + rest.length /\ Srt lt z) (Q := fun c st' => c = (none, ()) /\ PKd kd a₀ st' /\ pendingOf st' = pendingOf st /\ ∃ z r, (arrOf st').toList = pre ++ z ++ r /\ z.length = n /\ Srt lt z) ?_ ?_ ⟨rfl, hB, rfl, x, rest, ea, by omega, rfl, sx⟩) ?_)
  · rintro k c st1 hak hkn ⟨rfl, hB1, e1, z, r, ez, hzk, hzr, sz⟩
    obtain ⟨q, r', rfl⟩ : ∃ q r', r = q :: r' := by
      cases r with
      | nil => simp at hzr; omega
      | cons q r' => exact ⟨q, r', rfl⟩
    have atq : (arrOf st1).toList[pre.length + k]? = some q := by
      rw [ez, <- hzk, <- List.length_append, List.getElem?_append_right (Nat.le_refl _), Nat.sub_self]; rfl
    have atz : ∀ j, j < k -> (arrOf st1).toList[pre.length + j]? = z[j]? := fun j hj => by rw [ez, at_mid (by omega)]
    refine wpS_bind (wpS_mono (wpS_forRange (I := fun y c st' => st' = st1 /\ ∃ l r, c = (none, l, r) /\ l <= r /\ r <= k /\ r - l + y <= k /\ (∀ e ∈ z.take l, lt q e = false) /\ (∀ e ∈ z.drop r, lt e q = false)) (Q := fun c st' => st' = st1 /\ ∃ l r, c = (none, l, r) /\ l <= k /\ (∀ e ∈ z.take l, lt q e = false) /\ (∀ e ∈ z.drop l, lt e q = false)) ?_ ?_ ⟨rfl, 0, k, rfl, by omega, by omega, by omega, by simp, fun e he => by rw [List.drop_of_length_le (by omega)] at he; cases he⟩) ?_)
    · rintro y c st2 _ hy ⟨rfl, l, r, rfl, b1, b2, b3, b4, b5⟩
      refine wpS_ite (fun g => ?_) (fun g => ?_)
      · have g' : l ≥ r := g
        have : l = r := by omega
        subst this
        exact wpS_pure ⟨rfl, l, l, rfl, b2, b4, b5⟩
      have g' : ¬ l ≥ r := g
      have hm : (l + r) / 2 < z.length := by omega
      have em := List.getElem?_eq_getElem hm
      refine wpS_bind (ltA_ok C hB1 atq (show (arrOf st2).toList[pre.length + (l + r) / 2]? = some z[(l + r) / 2] by rw [atz _ (by omega)]; exact em) ?_)
      cases e2 : lt q z[(l + r) / 2] with
      | true => exact wpS_pure ⟨rfl, l, (l + r) / 2, rfl, by omega, by omega, by omega, b4, srt_from L sz em (L.asym _ _ e2)⟩
      | false => exact wpS_pure ⟨rfl, (l + r) / 2 + 1, r, rfl, by omega, b2, by omega, srt_upto L sz em e2, b5⟩
    · rintro c st2 ⟨e, l, r, rfl, b1, b2, b3, b4, b5⟩
      have : l = r := by omega
      subst this
      exact ⟨e, l, l, rfl, b2, b4, b5⟩
    · rintro c st2 ⟨rfl, l, r, rfl, b2, b4, b5⟩
      have eb := bub_list (l := l) ez (by omega)
      rw [hzk] at eb
      have hp : (bubble (arrOf st2) (pre.length + k) (pre.length + k - (pre.length + l))).toList.Perm (arrOf st2).toList := Array.perm_iff_toList_perm.mp (bubble_perm _ _ _)
      refine wpS_bind (wpS_modify (wpS_pure ⟨rfl, hB1.set hp, e1, z.take l ++ q :: z.drop l, r', eb, ?_, ?_, ?_⟩))
      · rw [List.length_append, List.length_cons, List.length_take, List.length_drop]; omega
      · rw [List.length_append, List.length_cons, List.length_take, List.length_drop]
        rw [List.length_cons] at hzr
        omega
      · have s1 : Srt lt (z.take l ++ z.drop l) := by rw [List.take_append_drop]; exact sz
        have := srt_three (x := z.take l) (c := [q]) (y := z.drop l) s1 (srt_app (srt_left s1) (List.pairwise_singleton _ _) fun e he f hf => by rw [List.mem_singleton.mp hf]; exact b4 e he) fun e he f hf => by rw [List.mem_singleton.mp he]; exact b5 f hf
        rw [List.append_assoc] at this
        exact this
  · rintro c st1 ⟨e, hB1, e1, z, r, ez, hzk, hzr, sz⟩
    exact ⟨e, hB1, e1, z, r, ez, by omega, sz⟩
  · rintro c st1 ⟨rfl, hB1, e1, z, r, ez, hzk, sz⟩
    exact wpS_pure (h st1 z r hB1 e1 ez hzk sz)
end
section
variable {prog : Program} {w : World} {A : Around} {E : Value -> Shared -> Prop} {s : Shared} {kd : SortKind} {lt : Keyed -> Keyed -> Bool} {a₀ : Array Keyed}
theorem take_srt (L : LtOk lt) {l : List Keyed} {n : Nat} {p q : Keyed} (hs : Srt lt (l.take n)) (h1 : 1 <= n) (hp : l[n - 1]? = some p) (hq : l[n]? = some q) (hle : lt q p = false) : Srt lt (l.take (n + 1)) := by
  rw [tk_snoc hq]
  have hn := (List.getElem?_eq_some_iff.mp hq).1
  refine srt_app hs (List.pairwise_singleton _ _) fun e he f hf => ?_
  rw [List.mem_singleton.mp hf]
  have hlen : (l.take n).length = n := by rw [List.length_take]; omega
  exact le_last L hs (by rw [hlen, List.getElem?_take_of_lt (by omega)]; exact hp) hle e he
noncomputable def Dsc (lt : Keyed -> Keyed -> Bool) (l : List Keyed) : Prop := l.Pairwise fun p q => lt p q = false
theorem dsc_rev {l : List Keyed} (h : Dsc lt l) : Srt lt l.reverse := List.pairwise_reverse.mpr h
theorem take_dsc (L : LtOk lt) {l : List Keyed} {n : Nat} {p q : Keyed} (hs : Dsc lt (l.take n)) (h1 : 1 <= n) (hp : l[n - 1]? = some p) (hq : l[n]? = some q) (hle : lt p q = false) : Dsc lt (l.take (n + 1)) := by
  rw [tk_snoc hq]
  have hn := (List.getElem?_eq_some_iff.mp hq).1
  refine List.pairwise_append.mpr ⟨hs, List.pairwise_singleton _ _, fun e he f hf => ?_⟩
  rw [List.mem_singleton.mp hf]
  obtain ⟨j, hj⟩ := List.getElem?_of_mem he
  have hj1 := (List.getElem?_eq_some_iff.mp hj).1
  have hlen : (l.take n).length = n := by rw [List.length_take]; omega
  rcases Nat.lt_or_ge j (n - 1) with g | g
  · have hpp : (l.take n)[n - 1]? = some p := by rw [List.getElem?_take_of_lt (by omega)]; exact hp
    have h2 := List.getElem?_eq_some_iff.mp hj
    have h3 := List.getElem?_eq_some_iff.mp hpp
    have := (List.pairwise_iff_getElem.mp hs) j (n - 1) h2.1 h3.1 g
    rw [h2.2, h3.2] at this
    exact L.tr q p e hle this
  · have : j = n - 1 := by omega
    subst this
    rw [List.getElem?_take_of_lt (by omega), hp] at hj
    cases hj
    exact hle
noncomputable def Tot2 (lt : Keyed -> Keyed -> Bool) (a₀ : Array Keyed) : Prop := ∀ l : List Keyed, l.Perm a₀.toList -> ∀ (i j : Nat) (p q : Keyed), i < j -> l[i]? = some p -> l[j]? = some q -> lt p q = false -> lt q p = true
theorem run_ok {st : SortSt} {pre rest : List Keyed} {Q : Option Nat -> SortSt -> Prop} (L : LtOk lt) (T : Tot2 lt a₀) (C : CmpOk prog w A E s kd lt a₀) (hB : PKd kd a₀ st) (ea : (arrOf st).toList = pre ++ rest) (h1 : 1 <= rest.length)
    (h : ∀ m st' x r, PKd kd a₀ st' -> pendingOf st' = pendingOf st -> (arrOf st').toList = pre ++ x ++ r -> x.length = m -> 1 <= m -> x.length + r.length = rest.length -> Srt lt x -> Q (some m) st') : wpS (model prog w) A E s (countRun' pre.length rest.length) Q st := by
  have at_ : ∀ j, (arrOf st).toList[pre.length + j]? = rest[j]? := fun j => by rw [ea, at_app]
  have tot : ∀ (i j : Nat) (p q : Keyed), i < j -> rest[i]? = some p -> rest[j]? = some q -> lt p q = false -> lt q p = true := fun i j p q hij hp hq => T (arrOf st).toList (Array.perm_iff_toList_perm.mp hB.perm) (pre.length + i) (pre.length + j) p q (by omega) (by rw [at_]; exact hp) (by rw [at_]; exact hq)
  have fin : ∀ n, 1 <= n -> n <= rest.length -> Srt lt (rest.take n) -> Q (some n) st := fun n g1 g2 g3 => h n st (rest.take n) (rest.drop n) hB rfl (by rw [List.append_assoc, List.take_append_drop]; exact ea) (by rw [List.length_take]; omega) g1 (by rw [List.length_take, List.length_drop]; omega) g3
  refine wpS_bind (wpS_mono (wpS_forRange (I := fun x c st' => st' = st /\ c = (none, x) /\ Srt lt (rest.take x)) (Q := fun c st' => st' = st /\ ∃ n, c = (none, n) /\ 1 <= n /\ n <= rest.length /\ Srt lt (rest.take n) /\ (n = rest.length \/ ∃ p q, rest[n - 1]? = some p /\ rest[n]? = some q /\ lt q p = true)) ?_ ?_ ⟨rfl, rfl, ?_⟩) ?_)
  · rintro x c st1 h1x hx ⟨rfl, rfl, sx⟩
    have e1 : rest[x - 1]? = some rest[x - 1] := List.getElem?_eq_getElem (by omega)
    have e2 : rest[x]? = some rest[x] := List.getElem?_eq_getElem hx
    refine wpS_bind (ltA_ok C hB (show (arrOf st1).toList[pre.length + x]? = some rest[x] by rw [at_]; exact e2) (show (arrOf st1).toList[pre.length + x - 1]? = some rest[x - 1] by rw [show pre.length + x - 1 = pre.length + (x - 1) by omega, at_]; exact e1) ?_)
    cases e3 : lt rest[x] rest[x - 1] with
    | true => exact wpS_pure ⟨rfl, x, rfl, h1x, by omega, sx, .inr ⟨_, _, e1, e2, e3⟩⟩
    | false => exact wpS_pure ⟨rfl, rfl, take_srt L sx h1x e1 e2 e3⟩
  · rintro c st1 ⟨e, rfl, sx⟩
    have em : max 1 rest.length = rest.length := by omega
    rw [em] at sx
    exact ⟨e, max 1 rest.length, rfl, by omega, by omega, by rw [em]; exact sx, .inl em⟩
  · rw [show rest.take 1 = [rest[0]] by
      cases rest with
      | nil => simp at h1
      | cons a r => rfl]
    exact List.pairwise_singleton _ _
  · rintro c st1 ⟨rfl, n, rfl, hn1, hn2, sn, hor⟩
    refine wpS_ite (fun g => wpS_pure (fin n hn1 hn2 sn)) (fun g => ?_)
    have g' : ¬ n = rest.length := fun e => g (by simpa using e)
    obtain ⟨p, q, ep, eq, elt⟩ := hor.resolve_left g'
    have e0 : rest[0]? = some rest[0] := List.getElem?_eq_getElem (by omega)
    refine wpS_ite (fun g2 => wpS_bind (ltA_ok C hB (show (arrOf st1).toList[pre.length]? = some rest[0] by have := at_ 0; rw [Nat.add_zero] at this; rw [this]; exact e0) (show (arrOf st1).toList[pre.length + n - 1]? = some p by rw [show pre.length + n - 1 = pre.length + (n - 1) by omega, at_]; exact ep) ?_)) (fun g2 => ?_)
    · have g2' : n > 1 := g2
      have hle : lt p rest[0] = false := srt_at sn (i := 0) (j := n - 1) (by omega) (by rw [List.getElem?_take_of_lt (by omega)]; exact e0) (by rw [List.getElem?_take_of_lt (by omega)]; exact ep)
      have hlt : lt rest[0] p = true := by
        cases z : lt rest[0] p with
        | true => rfl
        | false => have := tot 0 (n - 1) _ _ (by omega) e0 ep z; rw [hle] at this; cases this
      exact wpS_ite (fun _ => wpS_pure (fin n hn1 hn2 sn)) (fun z => absurd hlt z)
    · have g2' : ¬ n > 1 := g2
      have en : n = 1 := by omega
      subst en
      have hr2 : 2 <= rest.length := by omega
      have d2 : Dsc lt (rest.take 2) := by
        have d1 : Dsc lt (rest.take 1) := by
          rw [show rest.take 1 = [rest[0]] by
            cases rest with
            | nil => simp at h1
            | cons a r => rfl]
          exact List.pairwise_singleton _ _
        exact take_dsc L d1 (Nat.le_refl _) ep eq (L.asym _ _ elt)
      refine wpS_bind (wpS_lift (wpAny_rule ⟨rfl, ?_⟩))
      refine wpS_bind (wpS_mono (wpS_forRange (I := fun x c st' => st' = st1 /\ c = (none, x, 0) /\ Dsc lt (rest.take x)) (Q := fun c st' => st' = st1 /\ ∃ m, c = (none, m, 0) /\ 2 <= m /\ m <= rest.length /\ Dsc lt (rest.take m)) ?_ ?_ ⟨rfl, rfl, d2⟩) ?_)
      · rintro x c st4 hax hx ⟨rfl, rfl, dx⟩
        have hax' : 2 <= x := hax
        have e1 : rest[x - 1]? = some rest[x - 1] := List.getElem?_eq_getElem (by omega)
        have e2 : rest[x]? = some rest[x] := List.getElem?_eq_getElem hx
        have a1 : (arrOf st4).toList[pre.length + x]? = some rest[x] := by rw [at_]; exact e2
        have a2 : (arrOf st4).toList[pre.length + x - 1]? = some rest[x - 1] := by rw [show pre.length + x - 1 = pre.length + (x - 1) by omega, at_]; exact e1
        refine wpS_bind (ltA_ok C hB a1 a2 ?_)
        cases e3 : lt rest[x] rest[x - 1] with
        | true => exact wpS_ite (fun _ => wpS_ite (fun z => absurd z (by show ¬ (0 : Nat) > 0; omega)) (fun _ => wpS_pure ⟨rfl, rfl, take_dsc L dx (by omega) e1 e2 (L.asym _ _ e3)⟩)) (fun z => absurd rfl z)
        | false =>
          have e4 : lt rest[x - 1] rest[x] = true := by
            cases z : lt rest[x - 1] rest[x] with
            | true => rfl
            | false => have := tot (x - 1) x _ _ (by omega) e1 e2 z; rw [e3] at this; cases this
          refine wpS_bind (ltA_ok C hB a2 a1 ?_)
          rw [e4]
          exact wpS_pure ⟨rfl, x, rfl, hax', by omega, dx⟩
      · rintro c st4 ⟨e, rfl, dx⟩
        have em : max (1 + 1) rest.length = rest.length := by omega
        rw [em] at dx
        exact ⟨e, max (1 + 1) rest.length, rfl, by omega, by omega, by rw [em]; exact dx⟩
      · rintro c st4 ⟨rfl, m, rfl, hm1, hm2, dm⟩
        refine wpS_ite (fun z => absurd z (by show ¬ (0 : Nat) > 0; omega)) (fun _ => ?_)
        have hlm : (rest.take m).length = m := by rw [List.length_take]; omega
        have er : (mirror (arrOf st4) pre.length (pre.length + m) ((pre.length + m - pre.length) / 2)).toList = pre ++ (rest.take m).reverse ++ rest.drop m := by
          have := rev_list (arr := arrOf st4) (pre := pre) (x := rest.take m) (post := rest.drop m) (by rw [List.append_assoc, List.take_append_drop]; exact ea)
          rw [hlm] at this
          exact this
        have hp : (mirror (arrOf st4) pre.length (pre.length + m) ((pre.length + m - pre.length) / 2)).toList.Perm (arrOf st4).toList := Array.perm_iff_toList_perm.mp (mirror_perm _ _ _ _)
        refine wpS_bind (wpS_reverse ?_)
        have hB7 := hB.set hp
        generalize e7 : setArr st4 (mirror (arrOf st4) pre.length (pre.length + m) ((pre.length + m - pre.length) / 2)) = st7 at hB7
        have ea7 : (arrOf st7).toList = pre ++ ((rest.take m).reverse ++ rest.drop m) := by rw [<- e7, <- List.append_assoc]; exact er
        have ep7 : pendingOf st7 = pendingOf st4 := by rw [<- e7]
        have s7 : Srt lt (((rest.take m).reverse ++ rest.drop m).take m) := by
          rw [List.take_append_of_le_length (by rw [List.length_reverse]; omega), List.take_of_length_le (by rw [List.length_reverse]; omega)]
          exact dsc_rev dm
        have l7 : ((rest.take m).reverse ++ rest.drop m).length = rest.length := by rw [List.length_append, List.length_reverse, List.length_take, List.length_drop]; omega
        generalize (rest.take m).reverse ++ rest.drop m = R at ea7 s7 l7
        have at7 : ∀ j, (arrOf st7).toList[pre.length + j]? = R[j]? := fun j => by rw [ea7, at_app]
        refine wpS_bind (wpS_mono (wpS_forRange (I := fun x c st' => st' = st7 /\ c = (none, x) /\ Srt lt (R.take x)) (Q := fun c st' => st' = st7 /\ ∃ k, c = (none, k) /\ 1 <= k /\ k <= rest.length /\ Srt lt (R.take k)) ?_ ?_ ⟨rfl, rfl, s7⟩) ?_)
        · rintro x c st8 h1x hx ⟨rfl, rfl, sx⟩
          have h1x' : m <= x := h1x
          have e1 : R[x - 1]? = some (R[x - 1]'(by omega)) := List.getElem?_eq_getElem (by omega)
          have e2 : R[x]? = some (R[x]'(by omega)) := List.getElem?_eq_getElem (by omega)
          refine wpS_bind (ltA_ok C hB7 (show (arrOf st8).toList[pre.length + x]? = some (R[x]'(by omega)) by rw [at7]; exact e2) (show (arrOf st8).toList[pre.length + x - 1]? = some (R[x - 1]'(by omega)) by rw [show pre.length + x - 1 = pre.length + (x - 1) by omega, at7]; exact e1) ?_)
          cases e3 : lt (R[x]'(by omega)) (R[x - 1]'(by omega)) with
          | true => exact wpS_pure ⟨rfl, x, rfl, by omega, by omega, sx⟩
          | false => exact wpS_pure ⟨rfl, rfl, take_srt L sx (by omega) e1 e2 e3⟩
        · rintro c st8 ⟨e, rfl, sx⟩
          exact ⟨e, max m rest.length, rfl, by omega, by omega, sx⟩
        · rintro c st8 ⟨rfl, k, rfl, hk1, hk2, sk⟩
          exact wpS_pure (h k st8 (R.take k) (R.drop k) hB7 ep7 (by rw [List.append_assoc, List.take_append_drop]; exact ea7) (by rw [List.length_take]; omega) hk1 (by rw [List.length_take, List.length_drop]; omega) sk)
end
end L2
set_option maxHeartbeats 1000000
namespace L2
open PySem PySem.Spec PyProof.Rows
noncomputable def spans : Nat -> List (List Keyed) -> List (Nat × Nat)
  | _, [] => []
  | a, l :: r => (a, l.length) :: spans (a + l.length) r
theorem spans_app : ∀ (b1 b2 : List (List Keyed)) (a : Nat), spans a (b1 ++ b2) = spans a b1 ++ spans (a + b1.flatten.length) b2
  | [], b2, a => by simp [spans]
  | l :: b1, b2, a => by
    show (a, l.length) :: spans (a + l.length) (b1 ++ b2) = (a, l.length) :: (spans (a + l.length) b1 ++ spans (a + (l ++ b1.flatten).length) b2)
    rw [spans_app b1 b2, List.length_append, Nat.add_assoc]
theorem spans_len : ∀ (bl : List (List Keyed)) (a : Nat), (spans a bl).length = bl.length
  | [], a => rfl
  | l :: r, a => by show (spans (a + l.length) r).length + 1 = r.length + 1; rw [spans_len r]
structure Blk (lt : Keyed -> Keyed -> Bool) (st : SortSt) (bl : List (List Keyed)) (rest : List Keyed) : Prop where
  arr : (arrOf st).toList = bl.flatten ++ rest
  pen : cp (pendingOf st) = spans 0 bl
  ok : ∀ l ∈ bl, l ≠ [] /\ Srt lt l
theorem cp_modE {P : Array (Nat × Nat × Nat)} {i : Nat} (pw : Nat) : cp (P.modify i fun x => match x with | (st, len, _) => (st, len, pw)) = cp P := by
  unfold cp
  refine List.ext_getElem? fun j => ?_
  rw [List.getElem?_map, List.getElem?_map, Array.getElem?_toList, Array.getElem?_toList, Array.getElem?_modify]
  by_cases z : i = j
  · rw [if_pos z]
    cases P[j]? <;> rfl
  · rw [if_neg z]
theorem Blk.psize {lt : Keyed -> Keyed -> Bool} {st : SortSt} {bl : List (List Keyed)} {rest : List Keyed} (h : Blk lt st bl rest) : (pendingOf st).size = bl.length := by
  have := congrArg List.length h.pen
  unfold cp at this
  rw [List.length_map, Array.length_toList, spans_len] at this
  exact this
theorem Blk.few {lt : Keyed -> Keyed -> Bool} {st : SortSt} {bl : List (List Keyed)} {rest : List Keyed} (h : Blk lt st bl rest) : bl.length <= bl.flatten.length := by
  have key : ∀ bl : List (List Keyed), (∀ l ∈ bl, l ≠ []) -> bl.length <= bl.flatten.length := by
    intro bl
    induction bl with
    | nil => intro _; exact Nat.le_refl _
    | cons l r ih =>
      intro hn
      have h1 := List.length_pos_iff.mpr (hn l List.mem_cons_self)
      have h2 := ih fun l hl => hn l (List.mem_cons_of_mem _ hl)
      rw [List.flatten_cons, List.length_append, List.length_cons]
      omega
  exact key bl fun l hl => (h.ok l hl).1
section
variable {prog : Program} {w : World} {A : Around} {E : Value -> Shared -> Prop} {s : Shared} {kd : SortKind} {lt : Keyed -> Keyed -> Bool} {a₀ : Array Keyed}
theorem mgc_ok {st : SortSt} {i : Nat} {bl : List (List Keyed)} {rest : List Keyed} {Q : Bool -> SortSt -> Prop} (L : LtOk lt) (C : CmpOk prog w A E s kd lt a₀) (hB : PKd kd a₀ st) (hb : Blk lt st bl rest) (hi : i + 1 < (pendingOf st).size)
    (h : ∀ st' bl', PKd kd a₀ st' -> Blk lt st' bl' rest -> bl'.flatten.length = bl.flatten.length -> bl'.length + 1 = bl.length -> Q true st') : wpS (model prog w) A E s (mergeAt' i) Q st := by
  have hps := hb.psize
  have ex : bl[i]? = some (bl[i]'(by omega)) := List.getElem?_eq_getElem _
  have ey : bl[i + 1]? = some (bl[i + 1]'(by omega)) := List.getElem?_eq_getElem _
  generalize hx : (bl[i]'(by omega)) = x at ex
  generalize hy : (bl[i + 1]'(by omega)) = y at ey
  have e0 := two_at ex ey
  have l1 : (bl.take i).length = i := by rw [List.length_take]; omega
  generalize bl.take i = b1 at e0 l1
  generalize bl.drop (i + 2) = b2 at e0
  subst e0
  obtain ⟨⟨sa, na, pw⟩, q1⟩ : ∃ v, (pendingOf st)[i]? = some v := ⟨_, getElem?_pos (pendingOf st) i (by omega)⟩
  obtain ⟨⟨sb, nb, pw2⟩, q2⟩ : ∃ v, (pendingOf st)[i + 1]? = some v := ⟨_, getElem?_pos (pendingOf st) (i + 1) hi⟩
  have p1 : (pendingOf st).toList[i]? = some (sa, na, pw) := by simpa using q1
  have p2 : (pendingOf st).toList[i + 1]? = some (sb, nb, pw2) := by simpa using q2
  have sp : spans 0 (b1 ++ x :: y :: b2) = spans 0 b1 ++ (b1.flatten.length, x.length) :: (b1.flatten.length + x.length, y.length) :: spans (b1.flatten.length + x.length + y.length) b2 := by rw [spans_app, Nat.zero_add]; rfl
  have ls : (spans 0 b1).length = i := by rw [spans_len]; exact l1
  have c1 : (cp (pendingOf st))[i]? = some (sa, na) := by unfold cp; rw [List.getElem?_map, p1]; rfl
  have c2 : (cp (pendingOf st))[i + 1]? = some (sb, nb) := by unfold cp; rw [List.getElem?_map, p2]; rfl
  rw [hb.pen, sp] at c1 c2
  rw [List.getElem?_append_right (by omega), ls, Nat.sub_self] at c1
  rw [List.getElem?_append_right (by omega), ls, Nat.add_sub_cancel_left] at c2
  have d1 : b1.flatten.length = sa /\ x.length = na := by cases c1; exact ⟨rfl, rfl⟩
  have d2 : b1.flatten.length + x.length = sb /\ y.length = nb := by cases c2; exact ⟨rfl, rfl⟩
  rw [<- d1.1, <- d1.2] at q1
  rw [<- d2.1, <- d2.2] at q2
  have okx := hb.ok x (by simp)
  have oky := hb.ok y (by simp)
  refine mergeAt_ok (pre := b1.flatten) (x := x) (y := y) (post := b2.flatten ++ rest) L C hB q1 q2 (by rw [hb.arr]; simp) okx.1 oky.1 okx.2 oky.2 fun st' z hB' ep pz sz ea => ?_
  have lz : z.length = x.length + y.length := by rw [pz.length_eq, List.length_append]
  refine h st' (b1 ++ z :: b2) hB' ⟨by rw [ea]; simp, ?_, fun l hl => ?_⟩ (by simp [lz]; omega) (by simp; omega)
  · unfold cp
    rw [ep, Array.toList_eraseIdxIfInBounds, Array.toList_setIfInBounds, two_one p1 p2, List.map_append, List.map_cons]
    have t1 : (cp (pendingOf st)).take i = spans 0 b1 := by rw [hb.pen, sp, List.take_append_of_le_length (by omega), List.take_of_length_le (by omega)]
    have t2 : (cp (pendingOf st)).drop (i + 2) = spans (b1.flatten.length + x.length + y.length) b2 := by
      rw [hb.pen, sp, List.drop_append, List.drop_of_length_le (by omega), List.nil_append, ls, show i + 2 - i = 2 by omega]; rfl
    unfold cp at t1 t2
    rw [List.map_take, List.map_drop, t1, t2, spans_app, Nat.zero_add]
    show spans 0 b1 ++ (b1.flatten.length, x.length + y.length) :: _ = spans 0 b1 ++ (b1.flatten.length, z.length) :: spans (b1.flatten.length + z.length) b2
    rw [lz, Nat.add_assoc]
  · rcases List.mem_append.mp hl with g | g
    · exact hb.ok l (List.mem_append_left _ g)
    · rcases List.mem_cons.mp g with g | g
      · rw [g]
        have hlx := List.length_pos_iff.mpr okx.1
        exact ⟨fun e => by rw [e, List.length_nil] at lz; omega, sz⟩
      · exact hb.ok l (List.mem_append_right _ (List.mem_cons_of_mem _ (List.mem_cons_of_mem _ g)))
theorem blk_on {st : SortSt} {bl : List (List Keyed)} {z r : List Keyed} {P : Array (Nat × Nat × Nat)} {lo n x : Nat} (hB : PKd kd a₀ st) (hb : Blk lt st bl (z ++ r)) (hz : z ≠ []) (sz : Srt lt z) (hP : cp P = cp (pendingOf st)) (hlo : lo = bl.flatten.length) (hn : z.length = n) (hx : x <= lo) :
    PKd kd a₀ (setPending st (P.push (lo, n, 0))) /\ ∃ bl' rest, Blk lt (setPending st (P.push (lo, n, 0))) bl' rest /\ ((none, lo + n) : Option Unit × Nat) = (none, bl'.flatten.length) /\ x + 1 <= bl'.flatten.length := by
  subst hlo
  subst hn
  have lz := List.length_pos_iff.mpr hz
  refine ⟨⟨hB.perm, hB.kind, hB.failed⟩, bl ++ [z], r, ⟨by show (arrOf st).toList = _; rw [hb.arr]; simp, ?_, fun l hl => ?_⟩, by rw [List.flatten_append, List.length_append, List.flatten_cons, List.flatten_nil, List.append_nil], by rw [List.flatten_append, List.length_append, List.flatten_cons, List.flatten_nil, List.append_nil]; omega⟩
  · show cp (P.push (bl.flatten.length, z.length, 0)) = _
    have : cp (P.push (bl.flatten.length, z.length, 0)) = cp P ++ [(bl.flatten.length, z.length)] := by unfold cp; rw [Array.toList_push, List.map_append]; rfl
    rw [this, hP, hb.pen, spans_app, Nat.zero_add]
    rfl
  · rcases List.mem_append.mp hl with g | g
    · exact hb.ok l g
    · rw [List.mem_singleton.mp g]; exact ⟨hz, sz⟩
theorem sort_ok {st : SortSt} {Q : Unit -> SortSt -> Prop} (L : LtOk lt) (T : Tot2 lt a₀) (C : CmpOk prog w A E s kd lt a₀) (hB : PKd kd a₀ st) (hp : pendingOf st = #[])
    (h : ∀ st', (arrOf st').Perm a₀ -> failedOf st' = none -> Srt lt (arrOf st').toList -> Q () st') : wpS (model prog w) A E s sortRuns' Q st := by
  have hz := hB.size
  rw [sortRuns'_eq]
  refine wpS_bind (wpS_get ?_)
  refine wpS_bind (wpS_mono (wpS_forRange (I := fun x c st' => PKd kd a₀ st' /\ ∃ bl rest, Blk lt st' bl rest /\ c = (none, bl.flatten.length) /\ x <= bl.flatten.length) (Q := fun c st' => PKd kd a₀ st' /\ ∃ bl, Blk lt st' bl [] /\ c = (none, bl.flatten.length)) ?_ ?_ ⟨hB, [], (arrOf st).toList, ⟨rfl, by rw [hp]; rfl, fun l hl => by cases hl⟩, rfl, Nat.zero_le _⟩) ?_)
  · rintro x c st1 _ hx ⟨hB1, bl, rest, b1, rfl, hxl⟩
    have hz1 := hB1.size
    have hlen : bl.flatten.length + rest.length = a₀.size := by rw [<- hz1, <- Array.length_toList, b1.arr, List.length_append]
    refine wpS_ite (fun g => ?_) (fun g => ?_)
    · have g' : bl.flatten.length ≥ (arrOf st).size := g
      have e0 : rest = [] := List.eq_nil_of_length_eq_zero (by omega)
      subst e0
      exact wpS_pure ⟨hB1, bl, b1, rfl⟩
    have g' : ¬ bl.flatten.length ≥ (arrOf st).size := g
    have er : (arrOf st).size - bl.flatten.length = rest.length := by omega
    show wpS (model prog w) A E s (countRun' bl.flatten.length ((arrOf st).size - bl.flatten.length) >>= _) _ st1
    rw [er]
    refine wpS_bind (run_ok L T C hB1 b1.arr (by omega) fun m st2 y r hB2 e2 a2 hm m1 hyr sy => ?_)
    refine wpS_ite (fun g2 => wpS_bind (wpS_lift (wpAny_rule ⟨rfl, ?_⟩))) (fun g2 => wpS_bind (wpS_get ?_))
    · have g2' : m < minRun' (arrOf st).size (arrOf st).size 0 := g2
      subst hm
      refine wpS_bind (bin_ok (pre := bl.flatten) (x := y) (rest := r) (n := min rest.length (minRun' (arrOf st).size (arrOf st).size 0)) L C hB2 a2 (fun e => by rw [e] at m1; cases m1) sy (by omega) (by omega) fun st3 z r3 hB3 e3 a3 hz3 sz => wpS_ite (fun z => by cases z) (fun _ => wpS_bind (wpS_get ?_)))
      have hB4 := hB3
      have b4 : Blk lt st3 bl (z ++ r3) := ⟨by rw [<- List.append_assoc]; exact a3, by rw [e3, e2]; exact b1.pen, b1.ok⟩
      have hz4 := hz3
      have s4 := sz
      have n4 : z ≠ [] := fun e => by rw [e, List.length_nil] at hz3; omega
      generalize hb : (pendingOf st3).back? = o
      cases o with
      | none => exact wpS_bind (wpS_modify (wpS_pure (blk_on hB4 b4 n4 s4 rfl rfl hz4 hxl)))
      | some v =>
        obtain ⟨s1, l1, p1⟩ := v
        refine wpS_bind (wpS_mono (wpS_forRange (I := fun _ c st' => c = (none, ()) /\ PKd kd a₀ st' /\ ∃ bl', Blk lt st' bl' (z ++ r3) /\ bl'.flatten.length = bl.flatten.length) (Q := fun c st' => c = (none, ()) /\ PKd kd a₀ st' /\ ∃ bl', Blk lt st' bl' (z ++ r3) /\ bl'.flatten.length = bl.flatten.length) ?_ (fun _ _ z => z) ⟨rfl, hB4, bl, b4, rfl⟩) ?_)
        · rintro y' c st5 _ _ ⟨rfl, hB5, bl5, b5, l5⟩
          refine wpS_bind (wpS_get ?_)
          by_cases hs : (pendingOf st5).size > 1
          · obtain ⟨⟨u, v, older⟩, eo⟩ : ∃ x, (pendingOf st5)[(pendingOf st5).size - 2]? = some x := ⟨_, getElem?_pos (pendingOf st5) ((pendingOf st5).size - 2) (by omega)⟩
            simp only [if_pos hs, eo]
            exact wpS_ite (fun _ => wpS_pure ⟨rfl, hB5, bl5, b5, l5⟩) (fun _ => wpS_bind (mgc_ok L C hB5 b5 (by omega) fun st6 bl6 hB6 b6 l6 _ => wpS_ite (fun z => by cases z) (fun z => wpS_pure ⟨rfl, hB6, bl6, b6, l6.trans l5⟩)))
          · simp only [if_neg hs]
            exact wpS_pure ⟨rfl, hB5, bl5, b5, l5⟩
        · rintro c st5 ⟨rfl, hB5, bl5, b5, l5⟩
          exact wpS_bind (wpS_modify (wpS_bind (wpS_modify (wpS_pure (blk_on ⟨hB5.perm, hB5.kind, hB5.failed⟩ ⟨b5.arr, (cp_modE _).trans b5.pen, b5.ok⟩ n4 s4 rfl l5.symm hz4 hxl)))))
    · subst hm
      have hB4 := hB2
      have b4 : Blk lt st2 bl (y ++ r) := ⟨by rw [<- List.append_assoc]; exact a2, by rw [e2]; exact b1.pen, b1.ok⟩
      have n4 : y ≠ [] := fun e => by rw [e] at m1; cases m1
      generalize hb : (pendingOf st2).back? = o
      cases o with
      | none => exact wpS_bind (wpS_modify (wpS_pure (blk_on hB4 b4 n4 sy rfl rfl rfl hxl)))
      | some v =>
        obtain ⟨s1, l1, p1⟩ := v
        refine wpS_bind (wpS_mono (wpS_forRange (I := fun _ c st' => c = (none, ()) /\ PKd kd a₀ st' /\ ∃ bl', Blk lt st' bl' (y ++ r) /\ bl'.flatten.length = bl.flatten.length) (Q := fun c st' => c = (none, ()) /\ PKd kd a₀ st' /\ ∃ bl', Blk lt st' bl' (y ++ r) /\ bl'.flatten.length = bl.flatten.length) ?_ (fun _ _ z => z) ⟨rfl, hB4, bl, b4, rfl⟩) ?_)
        · rintro y' c st5 _ _ ⟨rfl, hB5, bl5, b5, l5⟩
          refine wpS_bind (wpS_get ?_)
          by_cases hs : (pendingOf st5).size > 1
          · obtain ⟨⟨u, v, older⟩, eo⟩ : ∃ x, (pendingOf st5)[(pendingOf st5).size - 2]? = some x := ⟨_, getElem?_pos (pendingOf st5) ((pendingOf st5).size - 2) (by omega)⟩
            simp only [if_pos hs, eo]
            exact wpS_ite (fun _ => wpS_pure ⟨rfl, hB5, bl5, b5, l5⟩) (fun _ => wpS_bind (mgc_ok L C hB5 b5 (by omega) fun st6 bl6 hB6 b6 l6 _ => wpS_ite (fun z => by cases z) (fun z => wpS_pure ⟨rfl, hB6, bl6, b6, l6.trans l5⟩)))
          · simp only [if_neg hs]
            exact wpS_pure ⟨rfl, hB5, bl5, b5, l5⟩
        · rintro c st5 ⟨rfl, hB5, bl5, b5, l5⟩
          exact wpS_bind (wpS_modify (wpS_bind (wpS_modify (wpS_pure (blk_on ⟨hB5.perm, hB5.kind, hB5.failed⟩ ⟨b5.arr, (cp_modE _).trans b5.pen, b5.ok⟩ n4 sy rfl l5.symm rfl hxl)))))
  · rintro c st1 ⟨hB1, bl, rest, b1, rfl, hxl⟩
    have hz1 := hB1.size
    have hlen : bl.flatten.length + rest.length = a₀.size := by rw [<- hz1, <- Array.length_toList, b1.arr, List.length_append]
    have e0 : rest = [] := List.eq_nil_of_length_eq_zero (by omega)
    subst e0
    exact ⟨hB1, bl, b1, rfl⟩
  · rintro c st1 ⟨hB1, bl, b1, rfl⟩
    have hz1 := hB1.size
    have hlen : bl.flatten.length = a₀.size := by rw [<- hz1, <- Array.length_toList, b1.arr, List.append_nil]
    have hfew := b1.few
    refine wpS_bind (wpS_mono (wpS_forRange (I := fun y c st' => c = (none, ()) /\ PKd kd a₀ st' /\ ∃ bl, Blk lt st' bl [] /\ bl.length + y <= a₀.size + 1) (Q := fun c st' => c = (none, ()) /\ PKd kd a₀ st' /\ ∃ bl, Blk lt st' bl [] /\ bl.length <= 1) ?_ ?_ ⟨rfl, hB1, bl, b1, by omega⟩) ?_)
    · rintro y c st5 _ _ ⟨rfl, hB5, bl5, b5, hy5⟩
      refine wpS_bind (wpS_get ?_)
      refine wpS_ite (fun g => ?_) (fun g => ?_)
      · have g' : (pendingOf st5).size <= 1 := g
        rw [b5.psize] at g'
        exact wpS_pure ⟨rfl, hB5, bl5, b5, g'⟩
      have g' : ¬ (pendingOf st5).size <= 1 := g
      refine wpS_bind (mgc_ok L C hB5 b5 ?_ fun st6 bl6 hB6 b6 l6 n6 => wpS_ite (fun z => by cases z) (fun z => wpS_pure ⟨rfl, hB6, bl6, b6, by omega⟩))
      exact two_back _ g'
    · rintro c st5 ⟨e, hB5, bl5, b5, hy5⟩
      exact ⟨e, hB5, bl5, b5, by omega⟩
    · rintro c st5 ⟨rfl, hB5, bl5, b5, h5⟩
      refine wpS_pure (h _ hB5.perm hB5.failed ?_)
      rw [b5.arr, List.append_nil]
      match bl5, h5, b5.ok with
      | [], _, _ => exact List.Pairwise.nil
      | [l], _, ok => rw [List.flatten_cons, List.flatten_nil, List.append_nil]; exact (ok l List.mem_cons_self).2
      | _ :: _ :: _, h5, _ => simp at h5
end
end L2
set_option maxHeartbeats 1000000
namespace L2
open PySem PySem.Spec PyProof.Rows
theorem lexI_asym : ∀ a b : List Int, lexI a b = true -> lexI b a = false
  | [], [], h => by cases h
  | [], _ :: _, _ => rfl
  | _ :: _, [], h => by cases h
  | x :: r, y :: t, h => by
    have h' : (if x = y then lexI r t else decide (x < y)) = true := h
    show (if y = x then lexI t r else decide (y < x)) = false
    by_cases e : x = y
    · rw [if_pos e] at h'; rw [if_pos e.symm]; exact lexI_asym r t h'
    · rw [if_neg e] at h'; rw [if_neg fun z => e z.symm]
      have := of_decide_eq_true h'
      exact decide_eq_false (by omega)
theorem lexI_tri : ∀ a b : List Int, a ≠ b -> lexI a b = false -> lexI b a = true
  | [], [], h, _ => absurd rfl h
  | [], _ :: _, _, h => by cases h
  | _ :: _, [], _, _ => rfl
  | x :: r, y :: t, h, g => by
    have g' : (if x = y then lexI r t else decide (x < y)) = false := g
    show (if y = x then lexI t r else decide (y < x)) = true
    by_cases e : x = y
    · rw [if_pos e] at g'; rw [if_pos e.symm]; exact lexI_tri r t (fun z => h (by rw [e, z])) g'
    · rw [if_neg e] at g'; rw [if_neg fun z => e z.symm]
      have := of_decide_eq_false g'
      exact decide_eq_true (by omega)
theorem lexI_tr : ∀ a b c : List Int, lexI b a = false -> lexI c b = false -> lexI c a = false
  | [], [], [], _, _ => rfl
  | [], [], _ :: _, _, h => h
  | [], _ :: _, [], _, _ => rfl
  | [], _ :: _, _ :: _, _, _ => rfl
  | _ :: _, [], _, h, _ => by cases h
  | _ :: _, _ :: _, [], _, h => by cases h
  | x :: a, y :: b, z :: c, h, g => by
    have h' : (if y = x then lexI b a else decide (y < x)) = false := h
    have g' : (if z = y then lexI c b else decide (z < y)) = false := g
    show (if z = x then lexI c a else decide (z < x)) = false
    by_cases e1 : y = x
    · rw [if_pos e1] at h'
      by_cases e2 : z = y
      · rw [if_pos e2] at g'
        rw [if_pos (e2.trans e1)]
        exact lexI_tr a b c h' g'
      · rw [if_neg e2] at g'
        rw [if_neg fun w => e2 (w.trans e1.symm), <- e1]
        exact g'
    · rw [if_neg e1] at h'
      have q1 := of_decide_eq_false h'
      by_cases e2 : z = y
      · rw [if_neg fun w => e1 (e2.symm.trans w), e2]; exact h'
      · rw [if_neg e2] at g'
        have q2 := of_decide_eq_false g'
        rw [if_neg (by omega)]
        exact decide_eq_false (by omega)
theorem ints_uni : ∀ {us : List Value} {ns ms : List Int}, IntsAre us ns -> IntsAre us ms -> ns = ms
  | _, _, _, .nil, .nil => rfl
  | _, _, _, .cons _ _ h, .cons _ _ g => by rw [ints_uni h g]
theorem TupAt.uni {h : Heap} {k : Nat} {v : Value} {n m : List Int} (p : TupAt h k v n) (q : TupAt h k v m) : n = m := by
  obtain ⟨x, ox, us, j, rfl, e1, _, d1, i1, _⟩ := p
  obtain ⟨y, oy, vs, l, e, e2, _, d2, i2, _⟩ := q
  cases e
  rw [e1] at e2
  cases e2
  rw [d1] at d2
  cases d2
  exact ints_uni i1 i2
open Classical in
noncomputable def numsOf (h : Heap) (k : Nat) (p : Keyed) : List Int := if e : ∃ n, TupAt h k p.1 n then Classical.choose e else []
theorem numsOf_eq {h : Heap} {k : Nat} {p : Keyed} {n : List Int} (q : TupAt h k p.1 n) : numsOf h k p = n := by
  unfold numsOf
  rw [dif_pos ⟨n, q⟩]
  exact (Classical.choose_spec (⟨n, q⟩ : ∃ n, TupAt h k p.1 n)).uni q
theorem TupsAt.mem {h : Heap} {k : Nat} : ∀ {vs : List Value} {ns : List (List Int)} {v : Value}, TupsAt h k vs ns -> v ∈ vs -> ∃ n, TupAt h k v n
  | v :: vs, n :: ns, u, ⟨a, b⟩, hu => by
    rcases List.mem_cons.mp hu with z | z
    · rw [z]; exact ⟨n, a⟩
    · exact TupsAt.mem b z
theorem TupsAt.nums {h : Heap} {k : Nat} : ∀ {vs : List Value} {ns : List (List Int)}, TupsAt h k vs ns -> (vs.zip vs).map (numsOf h k) = ns
  | [], [], _ => rfl
  | v :: vs, n :: ns, ⟨a, b⟩ => by
    show numsOf h k (v, v) :: (vs.zip vs).map (numsOf h k) = n :: ns
    rw [numsOf_eq (p := (v, v)) a, TupsAt.nums b]
theorem few_pw {ns : List (List Int)} {R : List Int -> List Int -> Prop} (h : ns.length < 2) : ns.Pairwise R := by
  match ns, h with
  | [], _ => exact List.Pairwise.nil
  | [_], _ => exact List.pairwise_singleton _ _
  | _ :: _ :: _, h => exact absurd h (by simp)
section
variable {prog : Program} {w : World} {A : Around} {E : Value -> Shared -> Prop} {s : Shared}
theorem lt_ok (h : Heap) (k : Nat) : LtOk fun p q => lexI (numsOf h k p) (numsOf h k q) := ⟨fun p q e => lexI_asym _ _ e, fun p q r e g => lexI_tr _ _ _ e g⟩
theorem list_sort_T {a : Addr} {vs : List Value} {ns : List (List Int)} {k n : Nat} {P : PySem.Fin -> Shared -> Prop} (ho : s.heap.get? a = some (seqObj "list" vs.toArray n)) (hp : TupsAt s.heap k vs ns) (hna : ∀ v ∈ vs, v ≠ .ref a) (nd : ns.Nodup) (hsz : vs.length <= sizeLine)
    (q : ∀ (out : List Value) (ms : List (List Int)), out.Perm vs -> TupsAt s.heap k out ms -> (ms.Pairwise fun x y => lexI y x = false) -> P (.done (.ret .none)) { s with heap := sortedHeap s.heap a vs out.toArray }) : wpAny (model prog w) A (Builtin.«list.sort» ⟨[.ref a], []⟩) P E s := by
  rw [list_sort_plain]
  have ha : a < s.heap.objs.size := Heap.lt_size ho
  refine wpAny_bind (listItems_at ho rfl (wpAny_bind (listUpdate_at ho rfl ?_ (by rw [List.size_toArray]; omega) (Nat.zero_le _))))
  obtain ⟨e1, ho1⟩ : ∃ e1, (s.heap.update a (Obj.mapSeq fun _ => #[])).get? a = some (seqObj "list" #[] e1) := ⟨_, get?_update_seq ho (fun _ => #[])⟩
  refine wpAny_bind (seqEpoch_at ho1 rfl (wpAny_bind (wpAny_newTuple (wpAny_bind (wpAny_newList (wpAny_holding ?_) (Nat.zero_le _))) (by show vs.length <= _; omega))))
  generalize hH : ((s.heap.update a (Obj.mapSeq fun _ => (#[] : Array Value))).push (seqObj "tuple" vs.toArray 0)).push (seqObj "list" #[] 0) = H2
  have ho6 : H2.get? a = some (seqObj "list" #[] e1) := by
    rw [<- hH]
    exact Heap.get?_push_of_some _ (Heap.get?_push_of_some _ ho1)
  have keep : ∀ b o, b ≠ a -> s.heap.get? b = some o -> H2.get? b = some o := fun b o hb e => by
    rw [<- hH]
    exact Heap.get?_push_of_some _ (Heap.get?_push_of_some _ ((Heap.get?_update_other s.heap _ (Ne.symm hb)).trans e))
  have kp2 : ∀ {us : List Value} {ms : List (List Int)}, (∀ v ∈ us, v ≠ .ref a) -> TupsAt s.heap k us ms -> TupsAt H2 k us ms := by
    intro us
    induction us with
    | nil => intro ms _ hp; cases ms with
      | nil => trivial
      | cons _ _ => exact hp.elim
    | cons v us ih =>
      intro ms hn hp
      cases ms with
      | nil => exact hp.elim
      | cons m ms =>
        obtain ⟨⟨x, ox, us', j, rfl, g2, g3⟩, b⟩ := hp
        exact ⟨⟨x, ox, us', j, rfl, keep x ox (fun z => hn _ List.mem_cons_self (by rw [z])) g2, g3⟩, ih (fun u hu => hn u (List.mem_cons_of_mem _ hu)) b⟩
  have hp2 : TupsAt H2 k vs ns := kp2 hna hp
  -- what comes, back at the first heap
  have back : ∀ (l : List Keyed), (∀ p ∈ l, p.1 = p.2 /\ p.1 ∈ vs) -> ∃ ms, TupsAt s.heap k (l.map (·.2)) ms /\ ms = l.map (numsOf H2 k) := by
    intro l
    induction l with
    | nil => intro _; exact ⟨[], trivial, rfl⟩
    | cons p l ih =>
      intro hl
      obtain ⟨ms, g1, g2⟩ := ih fun r hr => hl r (List.mem_cons_of_mem _ hr)
      obtain ⟨e3, e4⟩ := hl p List.mem_cons_self
      obtain ⟨m, hm⟩ := hp.mem e4
      have hm2 : TupAt H2 k p.1 m := by
        have := kp2 (us := [p.1]) (ms := [m]) (fun v hv => by rw [List.mem_singleton.mp hv]; exact hna _ e4) ⟨hm, trivial⟩
        exact this.1
      refine ⟨m :: ms, ⟨by show TupAt s.heap k p.2 m; rw [<- e3]; exact hm, g1⟩, ?_⟩
      rw [List.map_cons, numsOf_eq hm2, g2]
  have fin : ∀ st : SortSt, (arrOf st).toList.Perm (vs.zip vs) -> ((arrOf st).toList.map (numsOf H2 k)).Pairwise (fun x y => lexI y x = false) -> failedOf st = none -> wpAny (model prog w) A (do { let touched := (<- seqEpoch a) != e1; Builtin.List.listUpdate (.ref a) (fun _ => (arrOf st).map (·.2)); if let some e := failedOf st then { rule "list.sort.comparison-raised"; throw e }; if touched then { rule "list.sort.modified"; raiseError "ValueError" "list modified during sort" }; ret .none }) P E { s with heap := H2 } := fun st e0 e9 e2 => by
    rw [e2]
    have hlen : (arrOf st).size = vs.length := by rw [<- Array.length_toList, e0.length_eq, List.length_zip, Nat.min_self]
    refine wpAny_bind (seqEpoch_at ho6 rfl (wpAny_bind (listUpdate_at ho6 rfl ?_ (Nat.zero_le _) (by rw [Array.size_map, hlen]; omega))))
    simp only [bne_self_eq_false, Bool.false_eq_true, if_false]
    refine wpAny_pure ?_
    obtain ⟨ms, g1, g2⟩ := back (arrOf st).toList fun p hpm => mem_zip_self (e0.mem_iff.mp hpm)
    have g3 : ((arrOf st).toList.map (·.2)).Perm vs := by
      have := e0.map (·.2)
      rwa [zip_snd] at this
    have := q _ ms g3 g1 (by rw [g2]; exact e9)
    have e3 : sortedHeap s.heap a vs ((arrOf st).toList.map (·.2)).toArray = H2.update a (Obj.mapSeq fun _ => (arrOf st).map (·.2)) := by
      unfold sortedHeap
      rw [hH]
      have : ((arrOf st).toList.map (·.2)).toArray = (arrOf st).map (·.2) := by apply Array.toList_inj.mp; simp
      rw [this]
    rw [e3] at this
    exact this
  show wpAny (model prog w) A _ P E { s with heap := H2 }
  dsimp only
  by_cases h2 : vs.toArray.size < 2
  · rw [if_pos h2, if_pos h2]
    refine wpAny_bind (wpAny_pure ?_)
    rw [StateT.run_pure]
    refine wpAny_bind (wpAny_pure ?_)
    refine fin (SortSt.mk' general' (vs.toArray.zip vs.toArray) #[] 7 none) (by show (vs.toArray.zip vs.toArray).toList.Perm _; simp) ?_ rfl
    show ((vs.toArray.zip vs.toArray).toList.map (numsOf H2 k)).Pairwise _
    have e4 : (vs.toArray.zip vs.toArray).toList = vs.zip vs := by simp
    rw [e4, hp2.nums]
    have l2 : ns.length < 2 := by
      have := congrArg List.length hp2.nums
      rw [List.length_map, List.length_zip, Nat.min_self] at this
      rw [List.size_toArray] at h2
      omega
    exact few_pw l2
  · have h2' : 2 <= vs.length := by rw [List.size_toArray] at h2; omega
    rw [if_neg h2, if_neg h2]
    obtain ⟨fs, k1, k2, k3⟩ := hp2.tups
    refine wpAny_bind (PySem.W.kat_kind (s := { s with heap := H2 }) (T := .type "int") k1 (by omega) (fun v hv => by obtain ⟨i, t, rfl⟩ := k3 v hv; exact PySem.W.Looks.of_pure rfl) (by rfl) ?_)
    have ez : (vs.toArray.zip vs.toArray).toList = vs.zip vs := by simp
    have C : CmpOk prog w A E { s with heap := H2 } (tuples' true) (fun p q => lexI (numsOf H2 k p) (numsOf H2 k q)) (vs.toArray.zip vs.toArray) := by
      intro st p q' Q hk hp' hq' hQ
      rw [ez] at hp' hq'
      obtain ⟨m1, t1⟩ := hp2.mem (mem_zip_self hp').2
      obtain ⟨m2, t2⟩ := hp2.mem (mem_zip_self hq').2
      have hQ' : Q (some (lexI (numsOf H2 k p) (numsOf H2 k q'))) st := hQ
      rw [numsOf_eq t1, numsOf_eq t2] at hQ'
      rw [lt'_eq]
      refine wpS_bind (wpS_get ?_)
      rw [hk]
      refine wpS_bind (wpS_lift (wpAny_attempt (tup_lt (s := { s with heap := H2 }) t1 t2 ⟨rfl, ?_⟩)))
      exact wpS_pure hQ'
    have T : Tot2 (fun p q => lexI (numsOf H2 k p) (numsOf H2 k q)) (vs.toArray.zip vs.toArray) := by
      intro l hl i j p q' hij ep eq e
      rw [ez] at hl
      have hnd : (l.map (numsOf H2 k)).Nodup := by
        have := hl.map (numsOf H2 k)
        rw [hp2.nums] at this
        exact this.nodup_iff.mpr nd
      refine lexI_tri _ _ (fun z => ?_) e
      have g1 : (l.map (numsOf H2 k))[i]? = some (numsOf H2 k p) := by rw [List.getElem?_map, ep]; rfl
      have g2 : (l.map (numsOf H2 k))[j]? = some (numsOf H2 k q') := by rw [List.getElem?_map, eq]; rfl
      have f1 := List.getElem?_eq_some_iff.mp g1
      have f2 := List.getElem?_eq_some_iff.mp g2
      have := (List.nodup_iff_pairwise_ne.mp hnd)
      exact (List.pairwise_iff_getElem.mp this) i j f1.1 f2.1 hij (by rw [f1.2, f2.2, z])
    have run := sort_ok (a₀ := vs.toArray.zip vs.toArray) (st := SortSt.mk' (tuples' (Value.type "int" != Value.type "tuple")) (vs.toArray.zip vs.toArray) #[] 7 none) (Q := fun _ st' => (arrOf st').toList.Perm (vs.zip vs) /\ ((arrOf st').toList.map (numsOf H2 k)).Pairwise (fun x y => lexI y x = false) /\ failedOf st' = none) (lt_ok H2 k) T C ⟨Array.Perm.refl _, rfl, rfl⟩ rfl fun st' a1 a2 a3 => ⟨by rw [<- ez]; exact Array.perm_iff_toList_perm.mp a1, List.pairwise_map.mpr a3, a2⟩
    refine wpAny_bind (wpAny_mono run ?_ fun _ _ e => e)
    rintro ⟨⟨⟩, st'⟩ s' ⟨rfl, g1, g2, g3⟩
    exact fin st' g1 g2 g3
theorem sorted_T {tp : Addr} {T : String} {o : Obj} {vs : List Value} {ns : List (List Int)} {k n : Nat} {Q : Value -> Shared -> Prop} (hT : T = "list" \/ T = "tuple") (ho : s.heap.get? tp = some o) (hc : o.cls = .type T) (hd : o.data = .seq vs.toArray n) (hp : TupsAt s.heap k vs ns) (nd : ns.Nodup) (hsz : vs.length <= sizeLine)
    (q : ∀ (h1 h' : Heap) (a : Addr) (e : Nat) (out : List Value) (ms : List (List Int)), (∀ b o, s.heap.get? b = some o -> h1.get? b = some o) -> (∀ b o, h1.get? b = some o -> h'.get? b = some o) -> a = h1.objs.size -> h'.get? a = some (seqObj "list" out.toArray e) -> out.Perm vs -> TupsAt s.heap k out ms -> (ms.Pairwise fun x y => lexI y x = false) -> Q (.ref a) { s with heap := h' }) :
    wpAny (model prog w) A (call (.builtin "sorted") [.ref tp]) Q E s := by
  refine Calls.call_function_entry kind_sorted plain_sorted entry_sorted (args_sorted1 _) ?_
  unfold Builtin.«sorted»
  refine wpAny_bind (m := checkCount "sorted" 1 1 _) (wpAny_pure (wpAny_bind (wpAny_collect_seq tp hT ho hc hd (fun h1 k1 => ?_) (by rw [List.size_toArray]; omega))))
  refine wpAny_bind (wpAny_newList ?_ (by show vs.length <= _; omega))
  have hoL : (h1.push (seqObj "list" vs.toArray 0)).get? h1.objs.size = some (seqObj "list" vs.toArray 0) := Heap.get?_push_size _ rfl
  show wpAny _ _ _ _ _ { s with heap := h1.push (seqObj "list" vs.toArray 0) }
  have hp1 := hp.keep (h' := h1) k1
  have hp2 := hp1.keep (h' := h1.push (seqObj "list" vs.toArray 0)) fun b o e => Heap.get?_push_of_some _ e
  refine wpAny_bind (wpAny_holding (wpAny_call_entry slot_list_sort ⟨_, hoL, rfl⟩ entry_list_sort (list_sort_T (s := { s with heap := h1.push (seqObj "list" vs.toArray 0) }) hoL hp2 (hp1.ne (Nat.le_refl _)) nd hsz fun out ms po to ps => ⟨_, rfl, ?_⟩) (args_list_sort _)))
  obtain ⟨e, he⟩ := sortedHeap_at (out := out.toArray) hoL
  have to' : TupsAt s.heap k out ms := by
    have key : ∀ (us : List Value) (ms : List (List Int)), (∀ v ∈ us, ∃ m, TupAt s.heap k v m) -> TupsAt (h1.push (seqObj "list" vs.toArray 0)) k us ms -> TupsAt s.heap k us ms := by
      intro us
      induction us with
      | nil => intro ms _ h; cases ms with
        | nil => trivial
        | cons _ _ => exact h.elim
      | cons v us ih =>
        intro ms hv h
        cases ms with
        | nil => exact h.elim
        | cons m ms =>
          obtain ⟨m', hm'⟩ := hv v List.mem_cons_self
          have : m' = m := (hm'.keep (h' := h1.push (seqObj "list" vs.toArray 0)) fun b o e => Heap.get?_push_of_some _ (k1 b o e)).uni h.1
          exact ⟨this ▸ hm', ih ms (fun u hu => hv u (List.mem_cons_of_mem _ hu)) h.2⟩
    exact key out ms (fun v hv => hp.mem (po.mem_iff.mp hv)) to
  refine wpAny_pure ⟨_, rfl, q h1 _ _ e out ms k1 (fun b o hb => ?_) rfl he po to' ps⟩
  have hlt := Heap.lt_size hb
  rw [sortedHeap_old (Nat.ne_of_lt hlt) (by rw [size_push']; exact Nat.lt_succ_of_lt hlt)]
  exact Heap.get?_push_of_some _ hb
end
section
variable {X : Cx}
theorem vals_perm {us us' : List Value} (h : us'.Perm us) : ∀ {ys : List V}, Vals ys us -> ∃ ys', ys'.Perm ys /\ Vals ys' us' := by
  induction h with
  | nil => intro ys r; cases r; exact ⟨[], .refl _, .nil⟩
  | cons x _ ih =>
    intro ys r
    cases r with
    | cons a b =>
      obtain ⟨ys', p1, p2⟩ := ih b
      exact ⟨_ :: ys', p1.cons _, .cons a p2⟩
  | swap x y l =>
    intro ys r
    cases r with
    | cons a b => cases b with
      | cons c d => exact ⟨_ :: _ :: _, .swap _ _ _, .cons c (.cons a d)⟩
  | trans _ _ ih1 ih2 =>
    intro ys r
    obtain ⟨y1, p1, q1⟩ := ih2 r
    obtain ⟨y2, p2, q2⟩ := ih1 q1
    exact ⟨y2, p2.trans p1, q2⟩
theorem tups_uniq {h : Heap} {k : Nat} : ∀ {us : List Value} {ns ms : List (List Int)}, TupsAt h k us ns -> TupsAt h k us ms -> ns = ms
  | [], [], [], _, _ => rfl
  | [], _ :: _, _, h, _ => h.elim
  | [], [], _ :: _, _, h => h.elim
  | _ :: _, [], _, h, _ => h.elim
  | _ :: _, _ :: _, [], _, h => h.elim
  | _ :: _, _ :: _, _ :: _, ⟨a, b⟩, ⟨c, d⟩ => by rw [a.uni c, tups_uniq b d]
noncomputable def rSortN (K : PySem.W.Frag) : List V -> Hp -> VK -> Prop := fun xs H Q => ∃ p ys ns k, xs = [.ref p] /\ (SqL K H p ys \/ SqT K H p ys) /\ TpsV K H k ys ns /\ ns.Nodup /\ ∀ q ys', H q = none -> ys'.Perm ys -> (∀ ms, TpsV K H k ys' ms -> ms.Pairwise fun x y => lexI y x = false) -> Q (.ref q) (upd H q (.lst ys'))
theorem call_sortedN (K : PySem.W.Frag) (h : X.K = K) : CallR X (.builtin "sorted") (rSortN K) := by
  subst h
  intro pins s σ H xs us Q I r h
  obtain ⟨p, ys, ns, k, rfl, hq, hv, nd, q⟩ := h
  obtain ⟨u, rfl, ru⟩ := vals1 r
  cases ru
  have fin : ∀ its : List Value, ys.length <= sizeLine -> Vals ys its -> ∀ (h1 h' : Heap) (a : Addr) (e : Nat) (out : List Value) (ms : List (List Int)), (∀ b o, s.heap.get? b = some o -> h1.get? b = some o) -> (∀ b o, h1.get? b = some o -> h'.get? b = some o) -> a = h1.objs.size -> h'.get? a = some (seqObj "list" out.toArray e) -> out.Perm its -> TupsAt s.heap k out ms -> (ms.Pairwise fun x y => lexI y x = false) -> EP X pins σ Q (.ref a) { s with heap := h' } := fun its hz rv h1 h' a e out ms k1 k2 ea he po to ps => by
    obtain ⟨ys', py, ry⟩ := vals_perm po rv
    have I1 : Inv X pins σ H { s with heap := h1 } := I.kept (t' := s.toks) k1
    have I2 : Inv X pins σ (upd H a (.lst ys')) { s with heap := h' } := I1.laid (t' := s.toks) (a := a) (o := .lst ys') k2 (by rw [ea]; exact Nat.le_refl _) ⟨by rw [py.length_eq]; exact hz, out, e, ry, by simpa [seqObj] using he⟩
    exact ⟨.ref a, _, I2, rfl, q _ ys' (I1.hok.fresh (by rw [ea]; exact Nat.le_refl _)) py fun ms' h => by rw [tups_uniq (h.at I ry) to]; exact ps⟩
  rcases hq with hq | hq
  · obtain ⟨its, rv, pl, hz⟩ := I.list hq
    obtain ⟨o, ho, hc, m, hd⟩ := pl.isList
    exact sorted_T (.inl rfl) ho hc hd (hv.at I rv) nd (by rw [<- rv.length]; exact hz) (fin its hz rv)
  · obtain ⟨its, rv, pl, hz⟩ := I.tuple hq
    obtain ⟨o, ho, hc, m, hd⟩ := pl
    exact sorted_T (.inr rfl) ho hc hd (hv.at I rv) nd (by rw [<- rv.length]; exact hz) (fin its hz rv)
end
end L2
namespace L2
open PySem PySem.Spec PyProof.Rows
section
variable {X : Cx} {e st : Expr} {te : TE} {ts : TO} {pos p2 : Pos}
theorem made_back (l : List Nat) (t tk : Tok) : sliceMade (S l) t none none (some (-1, tk)) = .str (S l.reverse) := by
  unfold sliceMade
  rw [if_neg (by simp)]
  have e : slicePicked (S l) none none (some (-1, tk)) = (List.range (S l).cps.size).reverse := by
    rw [<- PySem.W.krv_range, <- PySem.W.krv_sliceRange]
    rfl
  rw [e, List.filterMap_reverse, PySem.W.krv_all, S_list]
  rfl
noncomputable def tRevS (te : TE) (ts : TO) : TE := fun σ H Q => te σ H fun x H1 => ts σ H1 fun o H2 => o = some (-1) /\ ∃ l, x = .str (S l) /\ l.length <= sizeLine /\ Q (.str (S l.reverse)) H2
theorem pe_revS (he : PE X e te) (hs : PO X (some st) ts) : PE X (.Subscript e (.Slice none none (some st) p2) pos) (tRevS te ts) := by
  intro pins s σ H Q I h
  refine Subscript_ (thn (he pins s σ H _ I h) fun v s1 ⟨x, H1, I1, r1, q1⟩ => ?_)
  refine wpAny_Slice ?_
  rw [evalPart_none]
  refine wpAny_pure (wpAny_pure (thn (hs pins s1 σ H1 _ I1 q1) fun vk s3 ⟨o, H3, I3, pk, eo, l, ex, hz, q3⟩ => ?_))
  subst eo ex
  obtain ⟨t, rfl⟩ := r1
  cases pk with
  | int i tk =>
  have I4 : Inv X pins σ H3 { s3 with heap := s3.heap.push { cls := .type "slice", data := .fields #[.none, .none, .int (-1) tk] } } := I3.kept (t' := s3.toks) fun b ob q => Heap.get?_push_of_some _ q
  show wpAny (model X.prog X.w) X.A (subscriptTail e (.Slice none none (some st) p2) (.str (S l) t) (.ref s3.heap.objs.size)) (EP X pins σ Q) X.xe { s3 with heap := s3.heap.push { cls := .type "slice", data := .fields #[.none, .none, .int (-1) tk] } }
  refine tail_any (ops := [.str (S l) t, .ref s3.heap.objs.size]) (typeIs_str _ _ _) F.slot_str_getitem.lookup (wpAny_getItem_str_slice (l := none) (u := none) (st := some (-1, tk)) ⟨_, Heap.get?_push_size _ rfl, rfl, rfl⟩ rfl ?_) (by with_unfolding_all rfl)
  rw [made_back]
  refine ⟨by rw [S_len, List.length_reverse]; exact hz, ?_⟩
  exact ⟨.str (S l.reverse), H3, I4.tok _, ⟨_, rfl⟩, q3⟩
end
end L2
set_option maxHeartbeats 4000000
namespace My
open PySem PySem.Spec PyProof.Rows L2 XL
noncomputable def smalls : List Nat := [97, 98, 99, 100, 101, 102, 103, 104, 105, 106, 107, 108, 109, 110, 111, 112, 113, 114, 115, 116, 117, 118, 119, 120, 121, 122]
noncomputable def caps : List Nat := [65, 66, 67, 68, 69, 70, 71, 72, 73, 74, 75, 76, 77, 78, 79, 80, 81, 82, 83, 84, 85, 86, 87, 88, 89, 90]
noncomputable def Lt (c : Nat) : Prop := c ∈ smalls \/ c ∈ caps
noncomputable instance (c : Nat) : Decidable (Lt c) := by unfold Lt; infer_instance
noncomputable def ctr (c : Nat) : Nat := if isLow c = true then PyProof.Rows.up1 c else PyProof.Rows.lo1 c
theorem lt_all : ∀ c ∈ smalls ++ caps, c < 128 /\ ctr c ∈ smalls ++ caps /\ ctr (ctr c) = c /\ ctr c ≠ c := by decide +kernel
theorem Lt.mem {c : Nat} (h : Lt c) : c ∈ smalls ++ caps := List.mem_append.mpr h
theorem Lt.lt {c : Nat} (h : Lt c) : c < 128 := (lt_all c h.mem).1
theorem Lt.ctr {c : Nat} (h : Lt c) : Lt (ctr c) := List.mem_append.mp (lt_all c h.mem).2.1
theorem ctr_ctr {c : Nat} (h : Lt c) : ctr (ctr c) = c := (lt_all c h.mem).2.2.1
theorem ctr_ne {c : Nat} (h : Lt c) : ctr c ≠ c := (lt_all c h.mem).2.2.2
theorem ctr_inj {a b : Nat} (ha : Lt a) (hb : Lt b) (e : My.ctr a = My.ctr b) : a = b := by rw [<- ctr_ctr ha, e, ctr_ctr hb]
theorem other_small : ∀ c ∈ smalls, atI caps ((smalls.idxOf c : Nat) : Int) = some (ctr c) := by decide +kernel
theorem other_cap : ∀ c ∈ caps, atI smalls ((caps.idxOf c : Nat) : Int) = some (ctr c) := by decide +kernel
noncomputable def SameB (b : Addr) (H H' : Hp) : Prop := ∀ c o, H c = some o -> c ≠ b -> H' c = some o
theorem SameB.refl (b : Addr) (H : Hp) : SameB b H H := fun _ _ h _ => h
theorem SameB.trans {b : Addr} {H H1 H2 : Hp} (x : SameB b H H1) (y : SameB b H1 H2) : SameB b H H2 := fun c o h n => y c o (x c o h n) n
theorem SameB.of {b : Addr} {H H' : Hp} (x : Same H H') : SameB b H H' := fun c o h _ => x c o h
theorem SameB.upd (b : Addr) (H : Hp) (o : HO) : SameB b H (upd H b o) := fun c o h n => by rw [upd_ne n]; exact h
theorem Same.upd {H : Hp} {p : Addr} {o : HO} (h : H p = none) : Same H (L2.upd H p o) := fun c u e => by rw [upd_ne (ne_of_none e h)]; exact e
noncomputable def BoxAt (H : Hp) (b : Addr) : Prop := ∃ x y : Int, H b = some (.lst [.int x, .int y])
theorem BoxAt.same {H H' : Hp} {b : Addr} (h : BoxAt H b) (s : Same H H') : BoxAt H' b := let ⟨x, y, e⟩ := h; ⟨x, y, s _ _ e⟩
structure Yd (y : List Nat) : Prop where
  nd : y.Nodup
  lt : ∀ c ∈ y, Lt c
  cl : ∀ c ∈ y, ctr c ∈ y
noncomputable def sp_contrary (_ : PySem.W.Frag) : Sp := fun vs H Q _ => ∃ c, vs = [.str (S [c])] /\ c < 128 /\ Q (.str (S [ctr c])) H
theorem len_contrary {K : PySem.W.Frag} {vs : List V} {H : Hp} {Q : VK} {E : XK} (h : sp_contrary K vs H Q E) : vs.length = 1 := by obtain ⟨c, rfl, _⟩ := h; rfl
noncomputable def sp_Lother (_ : PySem.W.Frag) : Sp := fun vs H Q _ => ∃ c, vs = [.str (S [c])] /\ Lt c /\ Q (.str (S [ctr c])) H
theorem len_Lother {K : PySem.W.Frag} {vs : List V} {H : Hp} {Q : VK} {E : XK} (h : sp_Lother K vs H Q E) : vs.length = 1 := by obtain ⟨c, rfl, _⟩ := h; rfl
noncomputable def sp_Lbox (K : PySem.W.Frag) : Sp := fun vs H Q _ => ∃ (a : Addr) (ns : List Int) (k : Nat), vs = [.ref a, .int k] /\ SqL K H a (ns.map V.int) /\ k <= 1000 /\ ∀ b H', H b = none -> BoxAt H' b -> Same H H' -> Q (.ref b) H'
theorem len_Lbox {K : PySem.W.Frag} {vs : List V} {H : Hp} {Q : VK} {E : XK} (h : sp_Lbox K vs H Q E) : vs.length = 2 := by obtain ⟨a, ns, k, rfl, _⟩ := h; rfl
noncomputable def sp_Ltake (_ : PySem.W.Frag) : Sp := fun vs H Q _ => ∃ (b : Addr) (m : Int), vs = [.ref b, .int m] /\ BoxAt H b /\ 1 <= m /\ m < 1000000 /\ ∀ (r : Nat) H', (r : Int) < m -> BoxAt H' b -> SameB b H H' -> Q (.int r) H'
theorem len_Ltake {K : PySem.W.Frag} {vs : List V} {H : Hp} {Q : VK} {E : XK} (h : sp_Ltake K vs H Q E) : vs.length = 2 := by obtain ⟨b, m, rfl, _⟩ := h; rfl
noncomputable def sp_Lyard (_ : PySem.W.Frag) : Sp := fun vs H Q _ => ∃ (b : Addr) (few top : Nat), vs = [.ref b, .int few, .int top] /\ BoxAt H b /\ 1 <= few /\ few <= top /\ top <= 8 /\ ∀ (y : List Nat) H', Yd y -> 2 * few <= y.length -> y.length <= 2 * top -> BoxAt H' b -> SameB b H H' -> Q (.str (S y)) H'
theorem len_Lyard {K : PySem.W.Frag} {vs : List V} {H : Hp} {Q : VK} {E : XK} (h : sp_Lyard K vs H Q E) : vs.length = 3 := by obtain ⟨b, m, t, rfl, _⟩ := h; rfl
noncomputable def sp_Lword (_ : PySem.W.Frag) : Sp := fun vs H Q _ => ∃ (b : Addr) (y : List Nat) (top : Nat), vs = [.ref b, .str (S y), .int top] /\ BoxAt H b /\ y ≠ [] /\ y.length <= 1000 /\ top <= 1000 /\ ∀ (l : List Nat) H', (∀ c ∈ l, c ∈ y) -> l.length <= top -> BoxAt H' b -> SameB b H H' -> Q (.str (S l)) H'
theorem len_Lword {K : PySem.W.Frag} {vs : List V} {H : Hp} {Q : VK} {E : XK} (h : sp_Lword K vs H Q E) : vs.length = 3 := by obtain ⟨b, m, t, rfl, _⟩ := h; rfl
noncomputable def sp_law (K : PySem.W.Frag) : Sp := fun vs H Q _ => ∃ (a : Addr) (ns : List Int), vs = [.ref a] /\ SqL K H a (ns.map V.int) /\ ns.length <= 63 /\ ∀ H', Q (.bl true) H'
theorem len_law {K : PySem.W.Frag} {vs : List V} {H : Hp} {Q : VK} {E : XK} (h : sp_law K vs H Q E) : vs.length = 1 := by obtain ⟨b, m, rfl, _⟩ := h; rfl
theorem flat1 : ∀ l : List Nat, (l.map fun c => [c]).flatten = l
  | [] => rfl
  | c :: l => by rw [List.map_cons, List.flatten_cons, flat1 l]; rfl
theorem sum1 : ∀ l : List Nat, ((l.map fun c => [c]).map List.length).sum = l.length
  | [] => rfl
  | c :: l => by
    rw [List.map_cons, List.map_cons, List.sum_cons, sum1 l]
    show 1 + l.length = l.length + 1
    omega
theorem sgs_lists (l : List Nat) : sgs l = (l.map fun c => [c]).map fun l => V.str (S l) := by unfold sgs; rw [List.map_map]; rfl
theorem sgs_snoc (l : List Nat) (c : Nat) : sgs l ++ [V.str (S [c])] = sgs (l ++ [c]) := by unfold sgs; rw [List.map_append]; rfl
theorem take_snoc {α : Type} {l : List α} {i : Nat} {x : α} (h : l[i]? = some x) : l.take i ++ [x] = l.take (i + 1) := by rw [List.take_add_one, h]; rfl
theorem ints_at {ns : List Int} {i : Nat} (h : i < ns.length) : ∃ z, (ns.map V.int)[i]? = some (V.int z) := ⟨ns[i], by rw [List.getElem?_map, List.getElem?_eq_getElem h]; rfl⟩
theorem yes_ite {σ : L2.St} {H : Hp} {A B : Hp -> Prop} (h : A H) : tYes σ H fun b H3 => if b = true then A H3 else B H3 := by
  show (if true = true then A H else B H)
  rw [if_pos rfl]
  exact h
theorem box_at (b : Bool) (z : Int) : ∃ y, atI [V.int 0, V.int z] (if b = true then 1 else 0) = some (V.int y) := by
  cases b
  · exact ⟨0, rfl⟩
  · exact ⟨z, rfl⟩
theorem erase_perm {α : Type} : ∀ {l : List α} {i : Nat} {x : α}, l[i]? = some x -> (x :: l.eraseIdx i).Perm l
  | [], i, x, h => by simp at h
  | a :: l, 0, x, h => by
    have : a = x := by simpa using h
    subst this
    exact List.Perm.refl _
  | a :: l, i + 1, x, h => by
    have ih := erase_perm (l := l) (i := i) (x := x) (by simpa using h)
    rw [List.eraseIdx_cons_succ]
    exact (List.Perm.swap a x _).trans (List.Perm.cons a ih)
theorem sgs_erase (l : List Nat) (i : Nat) : (sgs l).eraseIdx i = sgs (l.eraseIdx i) := by
  unfold sgs
  induction l generalizing i with
  | nil => rfl
  | cons a l ih =>
    cases i with
    | zero => rfl
    | succ i => rw [List.map_cons, List.eraseIdx_cons_succ, ih, List.eraseIdx_cons_succ, List.map_cons]
theorem sgs_at {l : List Nat} {i : Nat} (h : i < l.length) : (sgs l)[i]? = some (V.str (S [l[i]])) := by unfold sgs; rw [List.getElem?_map, List.getElem?_eq_getElem h]; rfl
theorem sgs_app (a b : List Nat) : sgs a ++ sgs b = sgs (a ++ b) := by unfold sgs; rw [List.map_append]
theorem small_ctr : ∀ c ∈ smalls, ctr c ∉ smalls := by decide +kernel
theorem smalls_nd : smalls.Nodup := by decide +kernel
theorem Yd.perm {a b : List Nat} (h : Yd a) (p : a.Perm b) : Yd b :=
  ⟨p.nodup_iff.mp h.nd, fun c hc => h.lt c (p.mem_iff.mpr hc), fun c hc => p.mem_iff.mp (h.cl c (p.mem_iff.mpr hc))⟩
structure YdW (i : Nat) (L E : List Nat) : Prop where
  yd : Yd E
  nd : L.Nodup
  sm : ∀ c ∈ L, c ∈ smalls
  ap : ∀ c ∈ L, c ∉ E
  ll : L.length = 26 - i
  el : E.length = 2 * i
theorem YdW.start : YdW 0 smalls [] := ⟨⟨List.nodup_nil, fun _ h => absurd h List.not_mem_nil, fun _ h => absurd h List.not_mem_nil⟩, smalls_nd, fun _ h => h, fun _ _ h => absurd h List.not_mem_nil, rfl, rfl⟩
theorem YdW.turn {i r : Nat} {L E : List Nat} (w : YdW i L E) (hi : i < 26) (hr : r < L.length) : YdW (i + 1) (L.eraseIdx r) (E ++ [L[r], ctr L[r]]) := by
  have hp := erase_perm (l := L) (List.getElem?_eq_getElem hr)
  have hm : L[r] ∈ L := List.getElem_mem hr
  have hs := w.sm _ hm
  have hl : Lt L[r] := .inl hs
  have nd2 := hp.nodup_iff.mpr w.nd
  have sub : ∀ c ∈ L.eraseIdx r, c ∈ L := fun c hc => hp.mem_iff.mp (List.mem_cons_of_mem _ hc)
  have ap1 := w.ap _ hm
  have ap2 : ctr L[r] ∉ E := fun z => ap1 (by have := w.yd.cl _ z; rwa [ctr_ctr hl] at this)
  refine ⟨⟨?_, fun c hc => ?_, fun c hc => ?_⟩, (List.nodup_cons.mp nd2).2, fun c hc => w.sm c (sub c hc), fun c hc hE => ?_, ?_, ?_⟩
  · rw [List.nodup_append]
    refine ⟨w.yd.nd, ?_, fun a ha b hb z => ?_⟩
    · rw [List.nodup_cons]
      refine ⟨fun z => (ctr_ne hl) (List.mem_singleton.mp z).symm, List.nodup_cons.mpr ⟨List.not_mem_nil, List.nodup_nil⟩⟩
    · subst z
      rcases List.mem_cons.mp hb with z | z
      · exact ap1 (z ▸ ha)
      · exact ap2 (List.mem_singleton.mp z ▸ ha)
  · rcases List.mem_append.mp hc with z | z
    · exact w.yd.lt c z
    · rcases List.mem_cons.mp z with z | z
      · rw [z]; exact hl
      · rw [List.mem_singleton.mp z]; exact hl.ctr
  · rcases List.mem_append.mp hc with z | z
    · exact List.mem_append_left _ (w.yd.cl c z)
    · refine List.mem_append_right _ ?_
      rcases List.mem_cons.mp z with z | z
      · rw [z]; exact List.mem_cons_of_mem _ (List.mem_singleton.mpr rfl)
      · rw [List.mem_singleton.mp z, ctr_ctr hl]; exact List.mem_cons_self
  · rcases List.mem_append.mp hE with z | z
    · exact w.ap c (sub c hc) z
    · rcases List.mem_cons.mp z with z | z
      · exact (List.nodup_cons.mp nd2).1 (z ▸ hc)
      · have e : c = ctr L[r] := List.mem_singleton.mp z
        exact small_ctr _ hs (e ▸ w.sm c (sub c hc))
  · have := hp.length_eq
    rw [List.length_cons, w.ll] at this
    omega
  · rw [List.length_append, w.el]
    show 2 * i + 2 = _
    omega
theorem SameB.updN {b p : Addr} {H H' : Hp} {o : HO} (h : SameB b H H') (n : H p = none) : SameB b H (L2.upd H' p o) := fun c u e z => by rw [upd_ne (ne_of_none e n)]; exact h c u e z
theorem BoxAt.updN {b p : Addr} {H : Hp} {o : HO} (h : BoxAt H b) (n : p ≠ b) : BoxAt (L2.upd H p o) b := let ⟨x, y, e⟩ := h; ⟨x, y, by rw [upd_ne (Ne.symm n)]; exact e⟩
theorem SameB.none {b p : Addr} {H H' : Hp} (h : SameB b H H') (n : H' p = none) (z : p ≠ b) : H p = none := by
  cases q : H p with
  | none => rfl
  | some o => rw [h p o q z] at n; cases n
theorem BoxAt.ne {b p : Addr} {H : Hp} (h : BoxAt H b) (n : H p = none) : p ≠ b := fun z => by obtain ⟨x, y, e⟩ := h; rw [<- z, n] at e; cases e
theorem iteN {c : Bool} {A B : Prop} (h : c = false) (hB : B) : if c = true then A else B := by rw [h]; exact iteF hB
theorem lt128 {l : List Nat} (h : ∀ c ∈ l, Lt c) : ∀ c ∈ l, c < 128 := fun c hc => (h c hc).lt
theorem sgs_take (a : List Nat) : a.take (sgs a).length = a := by rw [sgs_len]; exact List.take_of_length_le (Nat.le_refl _)
theorem SameB.same {b : Addr} {H H2 H3 : Hp} (n : H b = Option.none) (s : Same H H2) (t : SameB b H2 H3) : Same H H3 := fun c o e => t c o (s c o e) (ne_of_none e n)
theorem SameB.after {p : Addr} {H H1 H2 : Hp} (s : SameB p H H1) (t : Same H1 H2) : SameB p H H2 := fun c o e z => t c o (s c o e z)
noncomputable def txs (ws : List (List Nat)) : List V := ws.map fun l => V.str (S l)
theorem txs_len (ws : List (List Nat)) : (txs ws).length = ws.length := by unfold txs; rw [List.length_map]
theorem txs_snoc (ws : List (List Nat)) (l : List Nat) : txs ws ++ [V.str (S l)] = txs (ws ++ [l]) := by unfold txs; rw [List.map_append]; rfl
theorem txs_at {ws : List (List Nat)} {i : Nat} (h : i < ws.length) : (txs ws)[i]? = some (V.str (S ws[i])) := by unfold txs; rw [List.getElem?_map, List.getElem?_eq_getElem h]; rfl
noncomputable def rstep (st : List Nat) (c : Nat) : List Nat := if st.getLast? = some (ctr c) then st.dropLast else st ++ [c]
noncomputable def red (l : List Nat) : List Nat := l.foldl rstep []
noncomputable def Rdd : List Nat -> Prop
  | [] => True
  | [_] => True
  | a :: b :: r => a ≠ ctr b /\ Rdd (b :: r)
noncomputable def strip : Nat -> List Nat -> List Nat
  | 0, l => l
  | n + 1, l => match l with
    | [] => []
    | [a] => [a]
    | a :: b :: r => if a = ctr ((b :: r).getLast (by simp)) then strip n (b :: r).dropLast else a :: b :: r
noncomputable def core (l : List Nat) : List Nat := strip l.length l
theorem cut_to {α : Type} (l : List α) (k : Nat) : cut l none (some (k : Int)) = l.take k := by
  unfold cut
  rw [HT.sIx_none, HT.sIx_nat, List.drop_zero, Nat.sub_zero]
  by_cases h : k <= l.length
  · rw [Nat.min_eq_left h]
  · rw [Nat.min_eq_right (by omega), List.take_of_length_le (Nat.le_refl _), List.take_of_length_le (by omega)]
theorem cut_from {α : Type} (l : List α) (k : Nat) : cut l (some (k : Int)) none = l.drop k := by
  unfold cut
  rw [HT.sIx_none, HT.sIx_nat]
  by_cases h : k <= l.length
  · rw [Nat.min_eq_left h, List.take_of_length_le (by rw [List.length_drop]; exact Nat.le_refl _)]
  · rw [Nat.min_eq_right (by omega), List.drop_of_length_le (Nat.le_refl _), List.drop_of_length_le (by omega)]
    simp
mutual
theorem eqv_refl : ∀ d : PyData, d.hasDict = false -> PyData.eqv d d = true
  | .none, _ => rfl
  | .bool b, _ => by simp [PyData.eqv]
  | .int i, _ => by simp [PyData.eqv]
  | .str x, _ => by simp [PyData.eqv]
  | .list xs, h => by show PyData.eqvAll xs xs = true; exact eqvAll_refl xs (by simpa [PyData.hasDict] using h)
  | .tuple xs, h => by show PyData.eqvAll xs xs = true; exact eqvAll_refl xs (by simpa [PyData.hasDict] using h)
  | .dict kvs, h => by simp [PyData.hasDict] at h
theorem eqvAll_refl : ∀ ds : List PyData, PyData.hasDictAll ds = false -> PyData.eqvAll ds ds = true
  | [], _ => rfl
  | d :: ds, h => by
    simp [PyData.hasDictAll] at h
    show (PyData.eqv d d && PyData.eqvAll ds ds) = true
    rw [eqv_refl d h.1, eqvAll_refl ds h.2]
    rfl
end
noncomputable def rot (c : List Nat) (k : Nat) : List Nat := c.drop k ++ c.take k
noncomputable def rots (c : List Nat) (n : Nat) : List (List Nat) := (List.range n).map fun k => rot c (k + 1)
noncomputable def ringC (c : List Nat) : List Nat := leastOf c (rots c (c.length - 1))
@[irreducible] noncomputable def ringM (w : List Nat) : List Nat := ringC (core (red w))
noncomputable def AllLt (l : List Nat) : Prop := ∀ c ∈ l, Lt c
noncomputable def letters : List Nat := [97, 98, 99, 100, 101, 102, 103, 104, 105, 106, 107, 108, 109, 110, 111, 112, 113, 114, 115, 116, 117, 118, 119, 120, 121, 122, 65, 66, 67, 68, 69, 70, 71, 72, 73, 74, 75, 76, 77, 78, 79, 80, 81, 82, 83, 84, 85, 86, 87, 88, 89, 90]
theorem nd_ix {l : List Nat} (h : l.Nodup) {i j : Nat} (hi : i < l.length) (hj : j < l.length) (e : l[i] = l[j]) : i = j := by
  have hp := List.pairwise_iff_getElem.mp h
  rcases Nat.lt_trichotomy i j with z | z | z
  · exact absurd e (hp i j hi hj z)
  · exact z
  · exact absurd e.symm (hp j i hj hi z)
theorem low_of_small : ∀ c ∈ smalls, isLow c = true /\ PyProof.Rows.lo1 c = c /\ ctr c ∈ caps := by decide +kernel
theorem low_of_cap : ∀ c ∈ caps, isLow c = false /\ PyProof.Rows.lo1 c = ctr c /\ c ∉ smalls /\ ctr c ∈ smalls := by decide +kernel
theorem cap_small : ∀ c ∈ caps, c ∉ smalls := by decide +kernel
theorem isLow_iff {c : Nat} (h : Lt c) : isLow c = decide (c ∈ smalls) := by
  rcases h with h | h
  · rw [(low_of_small c h).1, decide_eq_true h]
  · rw [(low_of_cap c h).1, decide_eq_false (low_of_cap c h).2.2.1]
noncomputable def kept (sm : List Nat) (c : Nat) : Bool := decide (PyProof.Rows.lo1 c ∈ sm)
noncomputable def cyc (i j k : Nat) : Prop := (i < j /\ j < k) \/ (j < k /\ k < i) \/ (k < i /\ i < j)
noncomputable instance (i j k : Nat) : Decidable (cyc i j k) := by unfold cyc; infer_instance
theorem sorted_eq {a b : List Nat} (h : a.Perm b) (ha : a.Pairwise (· <= ·)) (hb : b.Pairwise (· <= ·)) : a = b :=
  List.Perm.eq_of_pairwise (le := fun x y => x <= y) (fun _ _ _ _ h1 h2 => Nat.le_antisymm h1 h2) ha hb h
noncomputable def sp_bands (_ : PySem.W.Frag) : Sp := fun vs H Q _ => ∃ l : List Nat, vs = [.str (S l)] /\ (∀ c ∈ l, c < 128) /\ l.length < 64 /\ ∀ l' H', l'.Perm (l.filter isLow) -> l'.Pairwise (· <= ·) -> Same H H' -> Q (.str (S l')) H'
theorem len_bands {K : PySem.W.Frag} {vs : List V} {H : Hp} {Q : VK} {E : XK} (h : sp_bands K vs H Q E) : vs.length = 1 := by obtain ⟨c, rfl, _⟩ := h; rfl
noncomputable def sp_Lbands (_ : PySem.W.Frag) : Sp := fun vs H Q _ => ∃ y : List Nat, vs = [.str (S y)] /\ y.length < 64 /\ ∀ q l' H', H q = none -> H' q = some (.lst (sgs l')) -> l'.Perm (y.filter fun c => decide (c ∈ smalls)) -> l'.Pairwise (· <= ·) -> Same H H' -> Q (.ref q) H'
theorem len_Lbands {K : PySem.W.Frag} {vs : List V} {H : Hp} {Q : VK} {E : XK} (h : sp_Lbands K vs H Q E) : vs.length = 1 := by obtain ⟨c, rfl, _⟩ := h; rfl
theorem filter_take {p : Nat -> Bool} {l : List Nat} {i c : Nat} (h : l[i]? = some c) : (l.take (i + 1)).filter p = (l.take i).filter p ++ if p c = true then [c] else [] := by
  rw [<- take_snoc h, List.filter_append]
  congr 1
  by_cases z : p c = true
  · rw [if_pos z, List.filter_cons_of_pos z]; rfl
  · rw [if_neg z, List.filter_cons_of_neg z]; rfl
noncomputable def ones (l : List Nat) : List (List Nat) := l.map fun c => [c]
theorem sgs_ones (l : List Nat) : sgs l = txs (ones l) := sgs_lists l
theorem half_low {y : List Nat} (h : Yd y) : 2 * (y.filter isLow).length = y.length := by
  have key : ∀ p q : Nat -> Bool, (∀ c ∈ y, p c = true -> q (ctr c) = true) -> (y.filter p).length <= (y.filter q).length := fun p q hpq => by
    have hn : ((y.filter p).map ctr).Nodup := by
      show ((y.filter p).map ctr).Pairwise (· ≠ ·)
      rw [List.pairwise_map]
      refine (h.nd.filter p).imp_of_mem fun {a b} ha hb z e => z ?_
      exact ctr_inj (h.lt a (List.mem_filter.mp ha).1) (h.lt b (List.mem_filter.mp hb).1) e
    have := hn.length_le_of_subset (l₂ := y.filter q) fun c hc => by
      obtain ⟨d, hd, rfl⟩ := List.mem_map.mp hc
      obtain ⟨d1, d2⟩ := List.mem_filter.mp hd
      exact List.mem_filter.mpr ⟨h.cl d d1, hpq d d1 d2⟩
    rwa [List.length_map] at this
  have k1 := key isLow (fun c => !isLow c) fun c hc z => by
    rw [isLow_iff (h.lt c hc)] at z
    have hs := of_decide_eq_true z
    rw [(low_of_cap _ (low_of_small c hs).2.2).1]; rfl
  have k2 := key (fun c => !isLow c) isLow fun c hc z => by
    rcases h.lt c hc with q | q
    · rw [(low_of_small c q).1] at z; cases z
    · exact (low_of_small _ (low_of_cap c q).2.2.2).1
  have k3 : (y.filter isLow).length + (y.filter fun c => !isLow c).length = y.length := by
    clear k1 k2 key h
    induction y with
    | nil => rfl
    | cons a r ih =>
      cases hq : isLow a
      · rw [List.filter_cons_of_neg (by simp [hq]), List.filter_cons_of_pos (by simp [hq]), List.length_cons, List.length_cons]; omega
      · rw [List.filter_cons_of_pos hq, List.filter_cons_of_neg (by simp [hq]), List.length_cons, List.length_cons]; omega
  omega
noncomputable def bsOf (y : List Nat) : List Nat := (y.filter isLow).mergeSort fun a b => decide (a <= b)
theorem bsOf_perm (y : List Nat) : (bsOf y).Perm (y.filter isLow) := List.mergeSort_perm _ _
theorem bsOf_sorted (y : List Nat) : (bsOf y).Pairwise (· <= ·) :=
  (List.pairwise_mergeSort (le := fun a b => decide (a <= b)) (fun a b c h1 h2 => decide_eq_true (Nat.le_trans (of_decide_eq_true h1) (of_decide_eq_true h2))) (fun a b => by
    rcases Nat.le_total a b with z | z
    · rw [decide_eq_true z]; rfl
    · rw [decide_eq_true z, Bool.or_true]) (y.filter isLow)).imp fun z => of_decide_eq_true z
theorem bsOf_eq {y l : List Nat} (h : l.Perm (y.filter isLow)) (p : l.Pairwise (· <= ·)) : l = bsOf y := sorted_eq (h.trans (bsOf_perm y).symm) p (bsOf_sorted y)
theorem smalls_low {y : List Nat} (h : ∀ c ∈ y, Lt c) : (y.filter fun c => decide (c ∈ smalls)) = y.filter isLow := List.filter_congr fun c hc => (isLow_iff (h c hc)).symm
theorem bsOf_same {y z : List Nat} (h : y.Perm z) : bsOf y = bsOf z := (bsOf_eq ((bsOf_perm y).trans (h.filter isLow)) (bsOf_sorted y))
theorem lo_in {y : List Nat} (h : Yd y) {e : Nat} (he : e ∈ y) : PyProof.Rows.lo1 e ∈ bsOf y := by
  refine (bsOf_perm y).mem_iff.mpr (List.mem_filter.mpr ?_)
  rcases h.lt e he with z | z
  · rw [(low_of_small e z).2.1]; exact ⟨he, (low_of_small e z).1⟩
  · rw [(low_of_cap e z).2.1]; exact ⟨h.cl e he, (low_of_small _ (low_of_cap e z).2.2.2).1⟩
theorem bsOf_len {y : List Nat} (h : Yd y) : 2 * (bsOf y).length = y.length := by rw [(bsOf_perm y).length_eq]; exact half_low h
structure Pr where
  t : Addr
  c : Nat
  i : Nat
noncomputable def prv (ps : List Pr) : List V := ps.map fun p => V.ref p.t
theorem prv_len (ps : List Pr) : (prv ps).length = ps.length := by unfold prv; rw [List.length_map]
theorem prv_app (a b : List Pr) : prv a ++ prv b = prv (a ++ b) := by unfold prv; rw [List.map_append]
theorem prv_snoc (a : List Pr) (p : Pr) : prv a ++ [V.ref p.t] = prv (a ++ [p]) := by unfold prv; rw [List.map_append]; rfl
theorem prv_rev (a : List Pr) : (prv a).reverse = prv a.reverse := by unfold prv; rw [List.map_reverse]
theorem prv_at {ps : List Pr} {i : Nat} {x : V} (h : (prv ps)[i]? = some x) : ∃ p, ps[i]? = some p /\ x = V.ref p.t := by
  unfold prv at h
  rw [List.getElem?_map] at h
  cases e : ps[i]? with
  | none => rw [e] at h; cases h
  | some p => rw [e] at h; cases h; exact ⟨p, rfl, rfl⟩
structure PrOk (H : Hp) (p : Pr) : Prop where
  tp : H p.t = some (.tup [.int p.c, .int p.i])
  cz : p.c < 1000
  iz : p.i < 1000
theorem PrOk.same {H H' : Hp} {p : Pr} (h : PrOk H p) (s : Same H H') : PrOk H' p := ⟨s _ _ h.tp, h.cz, h.iz⟩
structure Od where
  o : Addr
  ps : List Pr
structure OdOk (H : Hp) (o : Od) : Prop where
  tp : H o.o = some (.tup (prv o.ps))
  pr : ∀ p ∈ o.ps, PrOk H p
  fw : o.ps.length <= 100
theorem OdOk.same {H H' : Hp} {o : Od} (h : OdOk H o) (s : Same H H') : OdOk H' o := ⟨s _ _ h.tp, fun p hp => (h.pr p hp).same s, h.fw⟩
noncomputable def odv (os : List Od) : List V := os.map fun o => V.ref o.o
theorem odv_len (os : List Od) : (odv os).length = os.length := by unfold odv; rw [List.length_map]
theorem odv_snoc (a : List Od) (p : Od) : odv a ++ [V.ref p.o] = odv (a ++ [p]) := by unfold odv; rw [List.map_append]; rfl
theorem odv_at {os : List Od} {i : Nat} {o : Od} (h : os[i]? = some o) : (odv os)[i]? = some (V.ref o.o) := by unfold odv; rw [List.getElem?_map, h]; rfl
structure DrAt (H : Hp) (dr : Addr) (ws : List (List Nat)) (os : List Od) : Prop where
  ex : ∃ wt ot, H dr = some (.tup [.ref wt, .ref ot]) /\ H wt = some (.tup (txs ws)) /\ H ot = some (.tup (odv os))
  od : ∀ o ∈ os, OdOk H o
theorem DrAt.same {H H' : Hp} {dr : Addr} {ws : List (List Nat)} {os : List Od} (h : DrAt H dr ws os) (s : Same H H') : DrAt H' dr ws os := by
  obtain ⟨⟨wt, ot, h1, h2, h3⟩, g⟩ := h
  exact ⟨⟨wt, ot, s _ _ h1, s _ _ h2, s _ _ h3⟩, fun o ho => (g o ho).same s⟩
noncomputable def odAt (y : List Nat) (os : List Od) (e : Nat) : List Pr := ((os[(bsOf y).idxOf (PyProof.Rows.lo1 e)]?).map Od.ps).getD []
noncomputable def stA (y : List Nat) (os : List Od) (e : Nat) : List Pr := if isUp e = true then (odAt y os e).reverse else odAt y os e
theorem odAt_get {y : List Nat} {os : List Od} {e : Nat} (h : Yd y) (he : e ∈ y) (ho : 2 * os.length = y.length) : ∃ o ∈ os, os[(bsOf y).idxOf (PyProof.Rows.lo1 e)]? = some o /\ odAt y os e = o.ps := by
  have hi := List.idxOf_lt_length_of_mem (lo_in h he)
  have hl := bsOf_len h
  have hi2 : (bsOf y).idxOf (PyProof.Rows.lo1 e) < os.length := by omega
  exact ⟨os[(bsOf y).idxOf (PyProof.Rows.lo1 e)], List.getElem_mem hi2, List.getElem?_eq_getElem hi2, by unfold odAt; rw [List.getElem?_eq_getElem hi2]; rfl⟩
structure Pt where
  t : Addr
  c : Nat
  i : Nat
  e : Nat
noncomputable def ptv (ps : List Pt) : List V := ps.map fun p => V.ref p.t
theorem ptv_len (ps : List Pt) : (ptv ps).length = ps.length := by unfold ptv; rw [List.length_map]
theorem ptv_snoc (a : List Pt) (p : Pt) : ptv a ++ [V.ref p.t] = ptv (a ++ [p]) := by unfold ptv; rw [List.map_append]; rfl
noncomputable def Pt.is (p : Pt) : Nat × Nat × Nat := (p.c, p.i, p.e)
structure PtOk (H : Hp) (p : Pt) : Prop where
  tp : H p.t = some (.tup [.int p.c, .int p.i, .str (S [p.e])])
  cz : p.c < 1000
  iz : p.i < 1000
  ez : p.e < 128
theorem PtOk.same {H H' : Hp} {p : Pt} (h : PtOk H p) (s : Same H H') : PtOk H' p := ⟨s _ _ h.tp, h.cz, h.iz, h.ez⟩
theorem PtOk.upd {H : Hp} {p : Pt} {q : Addr} {o : HO} (h : PtOk H p) (n : p.t ≠ q) : PtOk (L2.upd H q o) p := ⟨by rw [upd_ne n]; exact h.tp, h.cz, h.iz, h.ez⟩
noncomputable def ptsAt (y : List Nat) (os : List Od) (e : Nat) : List (Nat × Nat × Nat) := (stA y os e).map fun p => (p.c, p.i, e)
noncomputable def pts (y : List Nat) (os : List Od) : List (Nat × Nat × Nat) := y.flatMap (ptsAt y os)
noncomputable def ThingsAt (K : PySem.W.Frag) (H : Hp) (x : V) (ys : List V) : Prop := (∃ p, x = .ref p /\ (SqL K H p ys \/ SqT K H p ys)) \/ ∃ l : List Nat, x = .str (S l) /\ ys = sgs l
noncomputable def sp_Lorder (K : PySem.W.Frag) : Sp := fun vs H Q _ => ∃ (b : Addr) (x : V) (ys : List V), vs = [.ref b, x] /\ BoxAt H b /\ ThingsAt K H x ys /\ ys.length <= 1000 /\ ∀ q ys' H', H q = none -> q ≠ b -> H' q = some (.lst ys') -> ys'.Perm ys -> BoxAt H' b -> SameB b H H' -> Q (.ref q) H'
theorem len_Lorder {K : PySem.W.Frag} {vs : List V} {H : Hp} {Q : VK} {E : XK} (h : sp_Lorder K vs H Q E) : vs.length = 2 := by obtain ⟨c, _, _, rfl, _⟩ := h; rfl
theorem perm_unmap {α β : Type} {f : α -> β} {ys zs : List β} (h : ys.Perm zs) : ∀ l : List α, zs = l.map f -> ∃ l' : List α, ys = l'.map f /\ l'.Perm l := by
  induction h with
  | nil => intro l e; cases l with
    | nil => exact ⟨[], rfl, List.Perm.refl _⟩
    | cons a l => cases e
  | cons x h ih =>
    intro l e
    cases l with
    | nil => cases e
    | cons a l =>
      injection e with e1 e2
      obtain ⟨l', g1, g2⟩ := ih l e2
      exact ⟨a :: l', by rw [g1, e1]; rfl, g2.cons a⟩
  | swap x y t =>
    intro l e
    cases l with
    | nil => cases e
    | cons a l =>
      cases l with
      | nil => cases e
      | cons b l =>
        injection e with e1 e2
        injection e2 with e2 e3
        exact ⟨b :: a :: l, by rw [e1, e2, e3]; rfl, List.Perm.swap a b l⟩
  | trans h1 h2 i1 i2 =>
    intro l e
    obtain ⟨l1, g1, g2⟩ := i2 l e
    obtain ⟨l2, g3, g4⟩ := i1 l1 g1
    exact ⟨l2, g3, g4.trans g2⟩
noncomputable def Pr.pair (p : Pr) : Nat × Nat := (p.c, p.i)
noncomputable def onB (band l : Nat) : Bool := decide (l = band) || decide (l = ctr band)
noncomputable def strUp (band c : Nat) (w : List Nat) (n : Nat) : List (Nat × Nat) := ((List.range n).filter fun i => onB band (w.getD i 0)).map fun i => (c, i)
noncomputable def strAll (band : Nat) (ws : List (List Nat)) (n : Nat) : List (Nat × Nat) := (List.range n).flatMap fun c => strUp band c (ws.getD c []) (ws.getD c []).length
theorem strUp_succ {band c i l : Nat} {w : List Nat} (h : w[i]? = some l) : strUp band c w (i + 1) = strUp band c w i ++ if onB band l = true then [(c, i)] else [] := by
  have e : w.getD i 0 = l := by rw [List.getD_eq_getElem?_getD, h]; rfl
  unfold strUp
  rw [List.range_succ, List.filter_append, List.map_append]
  congr 1
  by_cases z : onB band l = true
  · rw [if_pos z, List.filter_cons_of_pos (by rw [e]; exact z)]; rfl
  · rw [if_neg z, List.filter_cons_of_neg (by rw [e]; exact z)]; rfl
theorem strAll_succ {band i : Nat} {ws : List (List Nat)} {w : List Nat} (h : ws[i]? = some w) : strAll band ws (i + 1) = strAll band ws i ++ strUp band i w w.length := by
  have e : ws.getD i [] = w := by rw [List.getD_eq_getElem?_getD, h]; rfl
  unfold strAll
  rw [List.range_succ, List.flatMap_append]
  congr 1
  rw [List.flatMap_cons, List.flatMap_nil, List.append_nil, e]
theorem strUp_len (band c : Nat) (w : List Nat) (n : Nat) : (strUp band c w n).length <= n := by
  unfold strUp
  rw [List.length_map]
  exact Nat.le_trans (List.length_filter_le _ _) (by rw [List.length_range]; exact Nat.le_refl _)
structure WsOk (y : List Nat) (ws : List (List Nat)) : Prop where
  few : ws.length <= 4
  all : ∀ w ∈ ws, (∀ c ∈ w, c ∈ y) /\ w.length <= 12
noncomputable def OsOk (y : List Nat) (ws : List (List Nat)) (os : List Od) : Prop := os.length = (bsOf y).length /\ ∀ (j : Nat) (o : Od) (b : Nat), os[j]? = some o -> (bsOf y)[j]? = some b -> (o.ps.map Pr.pair).Perm (strAll b ws ws.length)
noncomputable def sp_Lwords (_ : PySem.W.Frag) : Sp := fun vs H Q _ => ∃ (b : Addr) (y : List Nat), vs = [.ref b, .str (S y)] /\ BoxAt H b /\ y ≠ [] /\ y.length <= 8 /\ ∀ (t : Addr) (ws : List (List Nat)) (H' : Hp), H t = none -> t ≠ b -> H' t = some (.tup (txs ws)) -> WsOk y ws -> BoxAt H' b -> SameB b H H' -> Q (.ref t) H'
theorem len_Lwords {K : PySem.W.Frag} {vs : List V} {H : Hp} {Q : VK} {E : XK} (h : sp_Lwords K vs H Q E) : vs.length = 2 := by obtain ⟨c, _, rfl, _⟩ := h; rfl
noncomputable def sp_Ldrawing (_ : PySem.W.Frag) : Sp := fun vs H Q _ => ∃ (b : Addr) (y : List Nat) (wt : Addr) (ws : List (List Nat)), vs = [.ref b, .str (S y), .ref wt] /\ BoxAt H b /\ Yd y /\ y.length <= 8 /\ wt ≠ b /\ H wt = some (.tup (txs ws)) /\ WsOk y ws /\ ∀ (dr : Addr) (os : List Od) (H' : Hp), DrAt H' dr ws os -> OsOk y ws os -> BoxAt H' b -> SameB b H H' -> Q (.ref dr) H'
theorem len_Ldrawing {K : PySem.W.Frag} {vs : List V} {H : Hp} {Q : VK} {E : XK} (h : sp_Ldrawing K vs H Q E) : vs.length = 3 := by obtain ⟨c, _, _, _, rfl, _⟩ := h; rfl
noncomputable def sp_strands_at (_ : PySem.W.Frag) : Sp := fun vs H Q _ => ∃ (y : List Nat) (dr : Addr) (ws : List (List Nat)) (os : List Od) (e : Nat), vs = [.str (S y), .ref dr, .str (S [e])] /\ Yd y /\ y.length <= 8 /\ e ∈ y /\ 2 * os.length = y.length /\ DrAt H dr ws os /\ ∀ (q : Addr) (H' : Hp), H q = none -> H' q = some (.lst (prv (stA y os e))) -> Same H H' -> Q (.ref q) H'
theorem len_strands_at {K : PySem.W.Frag} {vs : List V} {H : Hp} {Q : VK} {E : XK} (h : sp_strands_at K vs H Q E) : vs.length = 3 := by obtain ⟨c, _, _, _, _, rfl, _⟩ := h; rfl
noncomputable def sp_points (_ : PySem.W.Frag) : Sp := fun vs H Q _ => ∃ (y : List Nat) (dr : Addr) (ws : List (List Nat)) (os : List Od), vs = [.str (S y), .ref dr] /\ Yd y /\ y.length <= 8 /\ 2 * os.length = y.length /\ DrAt H dr ws os /\ ∀ (q : Addr) (ps : List Pt) (H' : Hp), H q = none -> H' q = some (.lst (ptv ps)) -> (∀ p ∈ ps, PtOk H' p /\ p.t ≠ q) -> ps.map Pt.is = pts y os -> ps.length <= 800 -> Same H H' -> Q (.ref q) H'
theorem len_points {K : PySem.W.Frag} {vs : List V} {H : Hp} {Q : VK} {E : XK} (h : sp_points K vs H Q E) : vs.length = 2 := by obtain ⟨c, _, _, _, rfl, _⟩ := h; rfl
theorem stA_mem {y : List Nat} {os : List Od} {e : Nat} {p : Pr} (h : Yd y) (he : e ∈ y) (ho : 2 * os.length = y.length) (hp : p ∈ stA y os e) : ∃ o ∈ os, p ∈ o.ps := by
  obtain ⟨o, h1, h2, h3⟩ := odAt_get h he ho
  refine ⟨o, h1, ?_⟩
  unfold stA at hp
  rw [h3] at hp
  split at hp
  · exact List.mem_reverse.mp hp
  · exact hp
theorem stA_len {H : Hp} {y : List Nat} {os : List Od} {e : Nat} (h : Yd y) (he : e ∈ y) (ho : 2 * os.length = y.length) (hd : ∀ o ∈ os, OdOk H o) : (stA y os e).length <= 100 := by
  obtain ⟨o, h1, h2, h3⟩ := odAt_get h he ho
  have := (hd o h1).fw
  unfold stA
  rw [h3]
  split
  · rw [List.length_reverse]; exact this
  · exact this
theorem TSame.box {H H' : Hp} {b : Addr} (h : BoxAt H b) (s : SameB b H H') : TSame H H' := fun c xs e => s c _ e fun z => by
  obtain ⟨x, y, g⟩ := h
  rw [z, g] at e; cases e
theorem PrOk.ts {H H' : Hp} {p : Pr} (h : PrOk H p) (s : TSame H H') : PrOk H' p := ⟨s _ _ h.tp, h.cz, h.iz⟩
theorem OdOk.ts {H H' : Hp} {o : Od} (h : OdOk H o) (s : TSame H H') : OdOk H' o := ⟨s _ _ h.tp, fun p hp => (h.pr p hp).ts s, h.fw⟩
theorem low_on {band l : Nat} (hb : band ∈ smalls) (hl : Lt l) : decide (PyProof.Rows.lo1 l = band) = onB band l := by
  unfold onB
  rcases hl with h | h
  · have e := (low_of_small l h).2.1
    have n : l ≠ ctr band := fun z => cap_small _ (low_of_small band hb).2.2 (z ▸ h)
    rw [e, decide_eq_false n, Bool.or_false]
  · have e := (low_of_cap l h).2.1
    have n : l ≠ band := fun z => cap_small l h (z ▸ hb)
    rw [e, decide_eq_false n, Bool.false_or]
    refine decide_eq_decide.mpr ⟨fun z => by rw [<- z, ctr_ctr (.inr h)], fun z => by rw [z, ctr_ctr (.inl hb)]⟩
theorem strAll_low {band : Nat} {ws : List (List Nat)} : ∀ {n : Nat}, ∀ p ∈ strAll band ws n, p.1 < n := fun {n} p hp => by
  unfold strAll at hp
  obtain ⟨c, hc, h⟩ := List.mem_flatMap.mp hp
  unfold strUp at h
  obtain ⟨i, _, rfl⟩ := List.mem_map.mp h
  exact List.mem_range.mp hc
noncomputable def pz (p : Nat × Nat) : Int × Int := (p.1, p.2)
theorem strUp_rise (band c : Nat) (w : List Nat) : ∀ n, (strUp band c w n).Pairwise fun x y => pairLt (pz y) (pz x) = false := fun n => by
  unfold strUp
  rw [List.pairwise_map]
  refine (List.Pairwise.filter _ List.pairwise_lt_range).imp fun {i j} h => ?_
  unfold pairLt pz
  simp
  omega
theorem strAll_rise (band : Nat) (ws : List (List Nat)) : ∀ n, n <= ws.length -> (strAll band ws n).Pairwise fun x y => pairLt (pz y) (pz x) = false
  | 0, _ => List.Pairwise.nil
  | n + 1, h => by
    rw [strAll_succ (List.getElem?_eq_getElem (by omega : n < ws.length)), List.pairwise_append]
    refine ⟨strAll_rise band ws n (by omega), strUp_rise _ _ _ _, fun x hx y hy => ?_⟩
    have h1 := strAll_low x hx
    unfold strUp at hy
    obtain ⟨i, _, rfl⟩ := List.mem_map.mp hy
    unfold pairLt pz
    simp
    omega
theorem strAll_len (band : Nat) {ws : List (List Nat)} (hw : ∀ w ∈ ws, w.length <= 12) : ∀ n, n <= ws.length -> (strAll band ws n).length <= 12 * n
  | 0, _ => Nat.le_refl _
  | n + 1, h => by
    have hn : n < ws.length := by omega
    rw [strAll_succ (List.getElem?_eq_getElem hn), List.length_append]
    have h1 := strAll_len band hw n (by omega)
    have h2 := strUp_len band n ws[n] ws[n].length
    have h3 := hw _ (List.getElem_mem hn)
    omega
theorem prs_of {K : PySem.W.Frag} {H : Hp} : ∀ {ps : List Pr}, (∀ p ∈ ps, PrOk H p) -> PrsV K H (prv ps) ((ps.map Pr.pair).map pz)
  | [], _ => trivial
  | p :: ps, h => ⟨⟨p.t, rfl, SqT.of (h p List.mem_cons_self).tp⟩, prs_of fun q hq => h q (List.mem_cons_of_mem _ hq)⟩
noncomputable def prD (p : Nat × Nat) : PyData := .tuple [.int p.1, .int p.2]
theorem rdds_prs {K : PySem.W.Frag} {H : Hp} : ∀ {ps : List Pr}, (∀ p ∈ ps, PrOk H p) -> RdDs K H (prv ps) ((ps.map Pr.pair).map prD)
  | [], _ => .nil
  | p :: ps, h => .cons (.tup (SqT.of (h p List.mem_cons_self).tp) (.cons (.int _) (.cons (.int _) .nil))) (rdds_prs fun q hq => h q (List.mem_cons_of_mem _ hq))
theorem sms_prs {H : Hp} {ps : List Pr} (h : ∀ p ∈ ps, PrOk H p) {k : Nat} : SmDs (k + 1) (90 * ps.length) ((ps.map Pr.pair).map prD) := by
  refine .all (a := 89) (fun x hx => ?_) (by rw [List.length_map, List.length_map]; omega)
  obtain ⟨q, hq, rfl⟩ := List.mem_map.mp hx
  obtain ⟨p, hp, rfl⟩ := List.mem_map.mp hq
  have ok := h p hp
  have b1 : (p.c : Int).natAbs < 10 ^ 12 := by have := ok.cz; omega
  have b2 : (p.i : Int).natAbs < 10 ^ 12 := by have := ok.iz; omega
  exact .tup (.cons (a := 40) (b := 41) (.int b1 (by decide)) (.cons (a := 40) (b := 0) (.int b2 (by decide)) .nil (by decide)) (by decide))
theorem dict_prs : ∀ ns : List (Nat × Nat), PyData.hasDictAll (ns.map prD) = false
  | [] => rfl
  | n :: ns => by show (PyData.hasDict (prD n) || PyData.hasDictAll (ns.map prD)) = false; rw [dict_prs ns]; rfl
noncomputable def odD (o : Od) : PyData := .tuple ((o.ps.map Pr.pair).map prD)
noncomputable def OsEx (y : List Nat) (ws : List (List Nat)) (os : List Od) : Prop := os.map (fun o => o.ps.map Pr.pair) = (bsOf y).map fun b => strAll b ws ws.length
noncomputable def sp_foreign_sign (_ : PySem.W.Frag) : Sp := fun vs H Q _ => ∃ (y w : List Nat), vs = [.str (S y), .str (S w)] /\ (∀ c ∈ w, c ∈ y) /\ ∀ H', Same H H' -> Q .non H'
theorem len_foreign_sign {K : PySem.W.Frag} {vs : List V} {H : Hp} {Q : VK} {E : XK} (h : sp_foreign_sign K vs H Q E) : vs.length = 2 := by obtain ⟨c, _, rfl, _⟩ := h; rfl
noncomputable def sp_strands_in (_ : PySem.W.Frag) : Sp := fun vs H Q _ => ∃ (wt : Addr) (ws : List (List Nat)) (band : Nat), vs = [.ref wt, .str (S [band])] /\ H wt = some (.tup (txs ws)) /\ ws.length <= 4 /\ (∀ w ∈ ws, (∀ c ∈ w, Lt c) /\ w.length <= 12) /\ band ∈ smalls /\ ∀ (q : Addr) (ps : List Pr) (H' : Hp), H q = none -> H' q = some (.lst (prv ps)) -> (∀ p ∈ ps, PrOk H' p) -> ps.map Pr.pair = strAll band ws ws.length -> Same H H' -> Q (.ref q) H'
theorem len_strands_in {K : PySem.W.Frag} {vs : List V} {H : Hp} {Q : VK} {E : XK} (h : sp_strands_in K vs H Q E) : vs.length = 2 := by obtain ⟨c, _, _, rfl, _⟩ := h; rfl
noncomputable def sp_look_words (_ : PySem.W.Frag) : Sp := fun vs H Q _ => ∃ (y : List Nat) (wt : Addr) (ws : List (List Nat)), vs = [.str (S y), .ref wt] /\ H wt = some (.tup (txs ws)) /\ (∀ w ∈ ws, ∀ c ∈ w, c ∈ y) /\ ∀ H', Same H H' -> Q .non H'
theorem len_look_words {K : PySem.W.Frag} {vs : List V} {H : Hp} {Q : VK} {E : XK} (h : sp_look_words K vs H Q E) : vs.length = 2 := by obtain ⟨c, _, _, rfl, _⟩ := h; rfl
theorem bs_small {y : List Nat} (h : Yd y) {b : Nat} (hb : b ∈ bsOf y) : b ∈ smalls := by
  obtain ⟨h1, h2⟩ := List.mem_filter.mp ((bsOf_perm y).mem_iff.mp hb)
  rw [isLow_iff (h.lt b h1)] at h2
  exact of_decide_eq_true h2
structure Ask where
  t : Addr
  u : List Nat
  wt : Addr
  ws : List (List Nat)
  ot : Addr
  os : List Od
structure AskOk (H : Hp) (k : Ask) : Prop where
  tp : H k.t = some (.tup [.str (S k.u), .ref k.wt, .ref k.ot])
  yd : Yd k.u
  yz : k.u.length <= 8
  wo : WsOk k.u k.ws
  hw : H k.wt = some (.tup (txs k.ws))
  ho : H k.ot = some (.tup (odv k.os))
  od : ∀ o ∈ k.os, OdOk H o
  ex : OsEx k.u k.ws k.os
noncomputable def kS (l : List Nat) : Key := Sum.inr (S l)
structure LdOk (H : Hp) (o : Od) : Prop where
  tp : H o.o = some (.lst (prv o.ps))
  pr : ∀ p ∈ o.ps, PrOk H p
  fw : o.ps.length <= 100
noncomputable def ordK (bs : List Nat) (os : List Od) : List (Key × V) := (bs.zip os).map fun x => (kS [x.1], V.ref x.2.o)
structure OrdAt (H : Hp) (d : Addr) (bs : List Nat) (os : List Od) : Prop where
  dk : H d = some (.dK (ordK bs os))
  ln : os.length = bs.length
  nd : (os.map Od.o).Nodup
  ok : ∀ o ∈ os, LdOk H o
noncomputable def ren1 (c : Nat) (f : Nat -> Option Nat) (p : Nat × Nat) : Option (Nat × Nat) := if p.1 = c then (f p.2).map fun j => (c, j) else some p
noncomputable def renM (c : Nat) (f : Nat -> Option Nat) (ps : List (Nat × Nat)) : List (Nat × Nat) := ps.filterMap (ren1 c f)
noncomputable def prs (o : Od) : List (Nat × Nat) := o.ps.map Pr.pair
noncomputable def outF (k i : Nat) : Option Nat := if i < k then some i else if i < k + 2 then none else some (i - 2)
noncomputable def inF (k i : Nat) : Option Nat := if i < k then some i else some (i + 2)
noncomputable def turnF (n i : Nat) : Option Nat := if i = 0 then some (n - 1) else some (i - 1)
noncomputable def fV (o : Option Nat) : V := match o with | none => V.non | some j => V.int (j : Nat)
structure Hold (H : Hp) (d wl : Addr) (bs : List Nat) (os : List Od) (ws : List (List Nat)) : Prop where
  od : OrdAt H d bs os
  wd : H wl = some (.lst (txs ws))
  nd : bs.Nodup
  bl : bs.length <= 100
  ne : ∀ o ∈ os, o.o ≠ wl
  pz : ∀ o ∈ os, ∀ p ∈ o.ps, ∃ w, ws[p.c]? = some w /\ p.i < w.length
  wz : ws.length <= 4
  wo : ∀ w ∈ ws, (∀ c ∈ w, Lt c) /\ w.length <= 12
theorem cut_one (w : List Nat) : cut w (some 1) none = w.drop 1 := by have := cut_from w 1; rwa [show ((1 : Nat) : Int) = 1 from rfl] at this
theorem cut_one' (w : List Nat) : cut w none (some 1) = w.take 1 := by have := cut_to w 1; rwa [show ((1 : Nat) : Int) = 1 from rfl] at this
noncomputable def put2 (n : Nat) (p q : Nat × Nat) (l : List (Nat × Nat)) : List (Nat × Nat) := l.take n ++ p :: q :: l.drop n
inductive Deed where
  | swap (b n : Nat) | out (c k : Nat) | turn (c : Nat) | ins (c k x n : Nat)
noncomputable def wSwap : List Nat := [115, 119, 97, 112]
noncomputable def wOut : List Nat := [111, 117, 116]
noncomputable def wTurn : List Nat := [116, 117, 114, 110]
noncomputable def wIn : List Nat := [105, 110]
noncomputable def DeedAt (H : Hp) (a : Addr) : Deed -> Prop
  | .swap b n => H a = some (.tup [.str (S wSwap), .str (S [b]), .int n])
  | .out c k => H a = some (.tup [.str (S wOut), .int c, .int k])
  | .turn c => H a = some (.tup [.str (S wTurn), .int c])
  | .ins c k x n => H a = some (.tup [.str (S wIn), .int c, .int k, .str (S [x]), .int n])
noncomputable def swapP (n : Nat) (l : List (Nat × Nat)) : List (Nat × Nat) := match l[n]?, l[n + 1]? with | some p, some q => (l.set n q).set (n + 1) p | _, _ => l
noncomputable abbrev Ords := List (List (Nat × Nat))
noncomputable def dW (ws : List (List Nat)) : Deed -> List (List Nat)
  | .swap _ _ => ws
  | .out c k => ws.set c ((ws.getD c []).take k ++ (ws.getD c []).drop (k + 2))
  | .turn c => ws.set c ((ws.getD c []).drop 1 ++ (ws.getD c []).take 1)
  | .ins c k x _ => ws.set c ((ws.getD c []).take k ++ [x] ++ [ctr x] ++ (ws.getD c []).drop k)
noncomputable def dO (bs : List Nat) (ws : List (List Nat)) (L : Ords) : Deed -> Ords
  | .swap b n => L.set (bs.idxOf b) (swapP n (L.getD (bs.idxOf b) []))
  | .out c k => L.map (renM c (outF k))
  | .turn c => L.map (renM c (turnF (ws.getD c []).length))
  | .ins c k x n => (L.map (renM c (inF k))).set (bs.idxOf (PyProof.Rows.lo1 x)) (put2 n (c, k) (c, k + 1) (renM c (inF k) (L.getD (bs.idxOf (PyProof.Rows.lo1 x)) [])))
noncomputable def Dok (y bs : List Nat) (ws : List (List Nat)) (L : Ords) : Deed -> Prop
  | .swap b n => b ∈ bs /\ n + 1 < (L.getD (bs.idxOf b) []).length
  | .out c k => c < ws.length /\ ∃ x, (ws.getD c [])[k]? = some x /\ (ws.getD c [])[k + 1]? = some (ctr x)
  | .turn c => c < ws.length
  | .ins c k x n => c < ws.length /\ k <= (ws.getD c []).length /\ (ws.getD c []).length <= 10 /\ x ∈ y /\ n <= (L.getD (bs.idxOf (PyProof.Rows.lo1 x)) []).length
theorem nodup_fm2 {α : Type} {f : Nat -> List α} (g : α -> Nat) : ∀ {l : List Nat}, l.Nodup -> (∀ e ∈ l, (f e).Nodup) -> (∀ e ∈ l, ∀ p ∈ f e, g p = e) -> (l.flatMap f).Nodup
  | [], _, _, _ => List.nodup_nil
  | a :: l, hn, h1, h2 => by
    obtain ⟨n1, n2⟩ := List.nodup_cons.mp hn
    rw [List.flatMap_cons, List.nodup_append]
    refine ⟨h1 a List.mem_cons_self, nodup_fm2 g n2 (fun e he => h1 e (List.mem_cons_of_mem _ he)) (fun e he => h2 e (List.mem_cons_of_mem _ he)), fun x hx y hy z => ?_⟩
    subst z
    obtain ⟨e, he, hxe⟩ := List.mem_flatMap.mp hy
    have g1 := h2 a List.mem_cons_self x hx
    have g2 := h2 e (List.mem_cons_of_mem _ he) x hxe
    exact n1 (by rw [<- g1, g2]; exact he)
theorem strAll_nd2 (band : Nat) (ws : List (List Nat)) (n : Nat) : (strAll band ws n).Nodup :=
  nodup_fm2 Prod.fst List.nodup_range (fun c _ => by
    unfold strUp
    show (List.map _ _).Pairwise (· ≠ ·)
    rw [List.pairwise_map]
    exact (List.nodup_range.filter _).imp fun {i j} h z => h (by cases z; rfl)) fun c _ p hp => by
    unfold strUp at hp
    obtain ⟨i, _, rfl⟩ := List.mem_map.mp hp
    rfl
noncomputable def LOk (y : List Nat) (ws : List (List Nat)) (L : Ords) : Prop := L.length = (bsOf y).length /\ ∀ (j : Nat) (l : List (Nat × Nat)) (b : Nat), L[j]? = some l -> (bsOf y)[j]? = some b -> l.Perm (strAll b ws ws.length)
structure Good (y : List Nat) (ws : List (List Nat)) (L : Ords) : Prop where
  wk : WsOk y ws
  lk : LOk y ws L
structure Dd where
  a : Addr
  e : Deed
theorem rise_eq {a b : List (Nat × Nat)} (h : a.Perm b) (ha : a.Pairwise fun x y => pairLt (pz y) (pz x) = false) (hb : b.Pairwise fun x y => pairLt (pz y) (pz x) = false) : a = b := by
  refine List.Perm.eq_of_pairwise (fun x y _ _ h1 h2 => ?_) ha hb h
  unfold pairLt pz at h1 h2
  simp only [Bool.or_eq_false_iff, Bool.and_eq_false_iff, decide_eq_false_iff_not] at h1 h2
  exact Prod.ext (by omega) (by omega)
noncomputable def sp_look_orders (_ : PySem.W.Frag) : Sp := fun vs H Q _ => ∃ (y : List Nat) (wt ot : Addr) (ws : List (List Nat)) (os : List Od), vs = [.str (S y), .ref wt, .ref ot] /\ Yd y /\ y.length <= 8 /\ WsOk y ws /\ H wt = some (.tup (txs ws)) /\ H ot = some (.tup (odv os)) /\ (∀ o ∈ os, OdOk H o) /\ OsOk y ws os /\ ∀ H', Same H H' -> Q .non H'
theorem len_look_orders {K : PySem.W.Frag} {vs : List V} {H : Hp} {Q : VK} {E : XK} (h : sp_look_orders K vs H Q E) : vs.length = 3 := by obtain ⟨c, _, _, _, _, rfl, _⟩ := h; rfl
noncomputable def sp_look_drawing (_ : PySem.W.Frag) : Sp := fun vs H Q _ => ∃ (y : List Nat) (dr : Addr) (ws : List (List Nat)) (os : List Od), vs = [.str (S y), .ref dr] /\ Yd y /\ y.length <= 8 /\ WsOk y ws /\ DrAt H dr ws os /\ OsOk y ws os /\ ∀ H', Same H H' -> Q (.bl true) H'
theorem len_look_drawing {K : PySem.W.Frag} {vs : List V} {H : Hp} {Q : VK} {E : XK} (h : sp_look_drawing K vs H Q E) : vs.length = 2 := by obtain ⟨c, _, _, _, rfl, _⟩ := h; rfl
theorem LOk.os {y : List Nat} {ws : List (List Nat)} {os : List Od} (h : LOk y ws (os.map prs)) : OsOk y ws os := ⟨by have := h.1; rwa [List.length_map] at this, fun j o b ho hb => h.2 j (prs o) b (by rw [List.getElem?_map, ho]; rfl) hb⟩
theorem OsOk.lok {y : List Nat} {ws : List (List Nat)} {os : List Od} (h : OsOk y ws os) : LOk y ws (os.map prs) := ⟨by rw [List.length_map]; exact h.1, fun j l b hl hb => by
  rw [List.getElem?_map] at hl
  cases e : os[j]? with
  | none => rw [e] at hl; cases hl
  | some o => rw [e] at hl; cases hl; exact h.2 j o b e hb⟩
noncomputable def pk (ps : List Pr) (idx : List Nat) : List Pr := idx.map fun i => ps.getD i ⟨0, 0, 0⟩
theorem pk_v (ps : List Pr) : ∀ idx : List Nat, (∀ i ∈ idx, i < ps.length) -> (idx.map fun i => (prv ps).getD i .non) = prv (pk ps idx)
  | [], _ => rfl
  | i :: idx, h => by
    show (prv ps).getD i .non :: (idx.map fun i => (prv ps).getD i .non) = V.ref (ps.getD i ⟨0, 0, 0⟩).t :: prv (pk ps idx)
    rw [pk_v ps idx fun j hj => h j (List.mem_cons_of_mem _ hj)]
    congr 1
    unfold prv
    rw [List.getD_eq_getElem?_getD, List.getD_eq_getElem?_getD, List.getElem?_map, List.getElem?_eq_getElem (h i List.mem_cons_self)]
    rfl
theorem pk_perm {ps : List Pr} {idx : List Nat} (h : idx.Perm (List.range ps.length)) : (pk ps idx).Perm ps := by
  have e : (List.range ps.length).map (fun i => ps.getD i ⟨0, 0, 0⟩) = ps := by
    refine List.ext_getElem (by simp) fun i g1 g2 => ?_
    simp [g2]
  have := h.map fun i => ps.getD i ⟨0, 0, 0⟩
  rw [e] at this
  exact this
theorem pk_rise {ps : List Pr} {idx : List Nat} (h : ∀ i ∈ idx, i < ps.length) (hp : (idx.map fun i => ((ps.map Pr.pair).map pz).getD i (0, 0)).Pairwise fun x y => pairLt y x = false) : ((pk ps idx).map Pr.pair).Pairwise fun x y => pairLt (pz y) (pz x) = false := by
  have e : (idx.map fun i => ((ps.map Pr.pair).map pz).getD i (0, 0)) = ((pk ps idx).map Pr.pair).map pz := by
    have e2 : ((pk ps idx).map Pr.pair).map pz = idx.map fun i => pz (Pr.pair (ps.getD i ⟨0, 0, 0⟩)) := by
      unfold pk
      rw [List.map_map, List.map_map]
      rfl
    rw [e2]
    refine List.map_congr_left fun i hi => ?_
    show ((ps.map Pr.pair).map pz).getD i (0, 0) = pz (Pr.pair (ps.getD i ⟨0, 0, 0⟩))
    rw [List.getD_eq_getElem?_getD, List.getD_eq_getElem?_getD, List.getElem?_map, List.getElem?_map, List.getElem?_eq_getElem (h i hi)]
    rfl
  rw [e, List.pairwise_map] at hp
  exact hp
theorem pz_nd {l : List (Nat × Nat)} (h : l.Nodup) : (l.map pz).Nodup := by
  unfold List.Nodup at *
  rw [List.pairwise_map]
  refine h.imp fun {x y} ne e => ne ?_
  have e1 := congrArg Prod.fst e
  have e2 := congrArg Prod.snd e
  exact Prod.ext (by have : (x.1 : Int) = y.1 := e1; omega) (by have : (x.2 : Int) = y.2 := e2; omega)
theorem txs_get {ws : List (List Nat)} {i : Nat} {x : V} (h : (txs ws)[i]? = some x) : ∃ w, ws[i]? = some w /\ x = .str (S w) := by
  unfold txs at h
  rw [List.getElem?_map] at h
  cases e : ws[i]? with
  | none => rw [e] at h; cases h
  | some w => rw [e] at h; cases h; exact ⟨w, rfl, rfl⟩
theorem gix {α : Type} {l : List α} (h : l.Nodup) {i j : Nat} (hi : i < l.length) (hj : j < l.length) (e : l[i] = l[j]) : i = j := by
  have hp := List.pairwise_iff_getElem.mp h
  rcases Nat.lt_trichotomy i j with z | z | z
  · exact absurd e (hp i j hi hj z)
  · exact z
  · exact absurd e.symm (hp j i hj hi z)
theorem idx_at_nd {l : List (Nat × Nat × Nat)} (h : l.Nodup) {n : Nat} {p : Nat × Nat × Nat} (e : l[n]? = some p) : l.idxOf p = n := by
  obtain ⟨hn, e2⟩ := List.getElem?_eq_some_iff.mp e
  have hm : p ∈ l := List.mem_of_getElem? e
  have hi := List.idxOf_lt_length_of_mem hm
  exact gix h hi hn ((List.getElem_idxOf hi).trans e2.symm)
theorem nodup_fm {α : Type} {f : Nat -> List α} (g : α -> Nat) : ∀ {l : List Nat}, l.Nodup -> (∀ e ∈ l, (f e).Nodup) -> (∀ e ∈ l, ∀ p ∈ f e, g p = e) -> (l.flatMap f).Nodup
  | [], _, _, _ => List.nodup_nil
  | a :: l, hn, h1, h2 => by
    obtain ⟨n1, n2⟩ := List.nodup_cons.mp hn
    rw [List.flatMap_cons, List.nodup_append]
    refine ⟨h1 a List.mem_cons_self, nodup_fm g n2 (fun e he => h1 e (List.mem_cons_of_mem _ he)) (fun e he => h2 e (List.mem_cons_of_mem _ he)), fun x hx y hy z => ?_⟩
    subst z
    obtain ⟨e, he, hxe⟩ := List.mem_flatMap.mp hy
    have g1 := h2 a List.mem_cons_self x hx
    have g2 := h2 e (List.mem_cons_of_mem _ he) x hxe
    exact n1 (by rw [<- g1, g2]; exact he)
theorem strUp_nd (band c : Nat) (w : List Nat) (n : Nat) : (strUp band c w n).Nodup := by
  unfold strUp
  show (List.map _ _).Pairwise (· ≠ ·)
  rw [List.pairwise_map]
  exact (List.nodup_range.filter _).imp fun {i j} h z => h (by cases z; rfl)
theorem strAll_nd (band : Nat) (ws : List (List Nat)) (n : Nat) : (strAll band ws n).Nodup :=
  nodup_fm Prod.fst List.nodup_range (fun c _ => strUp_nd _ _ _ _) fun c _ p hp => by
    unfold strUp at hp
    obtain ⟨i, _, rfl⟩ := List.mem_map.mp hp
    rfl
theorem mem_strAll {band c i n : Nat} {ws : List (List Nat)} (hc : c < n) (hi : i < (ws.getD c []).length) (hb : onB band ((ws.getD c []).getD i 0) = true) : (c, i) ∈ strAll band ws n :=
  List.mem_flatMap.mpr ⟨c, List.mem_range.mpr hc, List.mem_map.mpr ⟨i, List.mem_filter.mpr ⟨List.mem_range.mpr hi, hb⟩, rfl⟩⟩
theorem OsOk.at {y : List Nat} {ws : List (List Nat)} {os : List Od} {e : Nat} (h : Yd y) (ho : OsOk y ws os) (he : e ∈ y) : (((stA y os e).map Pr.pair)).Perm (strAll (PyProof.Rows.lo1 e) ws ws.length) := by
  have hl := bsOf_len h
  have hol := ho.1
  obtain ⟨o, o1, o2, o3⟩ := odAt_get (os := os) h he (by omega)
  have hm := lo_in h he
  have hb : (bsOf y)[(bsOf y).idxOf (PyProof.Rows.lo1 e)]? = some (PyProof.Rows.lo1 e) := by
    have hi := List.idxOf_lt_length_of_mem hm
    rw [List.getElem?_eq_getElem hi, List.getElem_idxOf hi]
  have p := ho.2 _ o _ o2 hb
  unfold stA
  rw [o3]
  split
  · rw [List.map_reverse]
    exact (List.reverse_perm _).trans p
  · exact p
theorem pts_nd {y : List Nat} {ws : List (List Nat)} {os : List Od} (h : Yd y) (ho : OsOk y ws os) : (pts y os).Nodup := by
  refine nodup_fm (fun p => p.2.2) h.nd (fun e he => ?_) fun e _ p hp => ?_
  · have hn := (ho.at h he).nodup_iff.mpr (strAll_nd _ _ _)
    have e1 : ptsAt y os e = ((stA y os e).map Pr.pair).map fun x => (x.1, x.2, e) := by unfold ptsAt; rw [List.map_map]; rfl
    rw [e1]
    show (List.map _ _).Pairwise (· ≠ ·)
    rw [List.pairwise_map]
    exact hn.imp fun {a b} g z => g (by cases a; cases b; cases z; rfl)
  · unfold ptsAt at hp
    obtain ⟨x, _, rfl⟩ := List.mem_map.mp hp
    rfl
theorem pt_in {y : List Nat} {ws : List (List Nat)} {os : List Od} {c i l e : Nat} {w : List Nat} (h : Yd y) (ho : OsOk y ws os) (hw : ws[c]? = some w) (hl : w[i]? = some l) (hly : l ∈ y) (he : e = l \/ e = ctr l) : (c, i, e) ∈ pts y os := by
  have hlt := h.lt l hly
  have hey : e ∈ y := by rcases he with rfl | rfl; exact hly; exact h.cl l hly
  have e1 : PyProof.Rows.lo1 e = PyProof.Rows.lo1 l := by
    rcases he with rfl | rfl
    · rfl
    · rcases hlt with g | g
      · rw [(low_of_cap _ (low_of_small l g).2.2).2.1, (low_of_small l g).2.1, ctr_ctr (.inl g)]
      · rw [(low_of_small _ (low_of_cap l g).2.2.2).2.1, (low_of_cap l g).2.1]
  have hb : PyProof.Rows.lo1 l ∈ smalls := by
    rcases hlt with g | g
    · rw [(low_of_small l g).2.1]; exact g
    · rw [(low_of_cap l g).2.1]; exact (low_of_cap l g).2.2.2
  have hon : onB (PyProof.Rows.lo1 l) l = true := by rw [<- low_on hb hlt]; exact decide_eq_true rfl
  have d1 : ws.getD c [] = w := by rw [List.getD_eq_getElem?_getD, hw]; rfl
  have d2 : w.getD i 0 = l := by rw [List.getD_eq_getElem?_getD, hl]; rfl
  have hm : (c, i) ∈ (stA y os e).map Pr.pair := by
    rw [(ho.at h hey).mem_iff, e1]
    exact mem_strAll (List.getElem?_eq_some_iff.mp hw).1 (by rw [d1]; exact (List.getElem?_eq_some_iff.mp hl).1) (by rw [d1, d2]; exact hon)
  obtain ⟨p, hp, ep⟩ := List.mem_map.mp hm
  refine List.mem_flatMap.mpr ⟨e, hey, List.mem_map.mpr ⟨p, hp, ?_⟩⟩
  have e2 : p.c = c := congrArg Prod.fst ep
  have e3 : p.i = i := congrArg Prod.snd ep
  rw [e2, e3]
noncomputable def key3 (p : Nat × Nat × Nat) : List Key := [Sum.inl (p.1 : Int), Sum.inl (p.2.1 : Int), Sum.inr (S [p.2.2])]
theorem key3_inj {p q : Nat × Nat × Nat} (h : key3 p = key3 q) : p = q := by
  unfold key3 at h
  injection h with h1 h2
  injection h2 with h2 h3
  injection h3 with h3 _
  have a1 : (p.1 : Int) = q.1 := Sum.inl.inj h1
  have a2 : (p.2.1 : Int) = q.2.1 := Sum.inl.inj h2
  have a3 : [p.2.2] = [q.2.2] := by
    have := Sum.inr.inj h3
    rw [<- S_list [p.2.2], this, S_list]
  have a4 : p.2.2 = q.2.2 := by simpa using a3
  exact Prod.ext (by omega) (Prod.ext (by omega) a4)
noncomputable def Nums (ps : List (Nat × Nat × Nat)) (kvs : List (List Key × V)) (n : Nat) : Prop := ∀ p ∈ ps.take n, valV kvs (key3 p) = some (.int (ps.idxOf p : Nat))
theorem Nums.put {ps : List (Nat × Nat × Nat)} {kvs : List (List Key × V)} {n : Nat} {p : Nat × Nat × Nat} (h : Nums ps kvs n) (hn : ps.Nodup) (e : ps[n]? = some p) : Nums ps (putK kvs (key3 p) (.int (n : Nat))) (n + 1) := fun r hr => by
  rw [valV_put]
  by_cases z : r = p
  · rw [if_pos (by rw [z]), z, idx_at_nd hn e]
  · rw [if_neg fun g => z (key3_inj g)]
    rw [<- take_snoc e] at hr
    exact h r ((List.mem_append.mp hr).resolve_right fun g => z (List.mem_singleton.mp g))
noncomputable def prd (n i : Nat) : Nat := if i = 0 then n - 1 else i - 1
theorem prd_lt {n i : Nat} (h : i < n) : prd n i < n := by unfold prd; split <;> omega
theorem prd_int {n i : Nat} (h : i < n) : ((i : Int) - 1) % (n : Int) = ((prd n i : Nat) : Int) := by
  unfold prd
  split
  · rename_i z
    subst z
    have : ((0 : Nat) : Int) - 1 + (n : Int) = ((n - 1 : Nat) : Int) := by omega
    rw [<- Int.add_emod_right, this]
    exact Int.emod_eq_of_lt (by omega) (by omega)
  · have : (i : Int) - 1 = ((i - 1 : Nat) : Int) := by omega
    rw [this]
    exact Int.emod_eq_of_lt (by omega) (by omega)
noncomputable abbrev C4 := Nat × Nat × Nat × Nat
noncomputable def cornM (ps : List (Nat × Nat × Nat)) (c : Nat) (w : List Nat) (i : Nat) : C4 := (c, i, ps.idxOf (c, prd w.length i, ctr (w.getD (prd w.length i) 0)), ps.idxOf (c, i, w.getD i 0))
noncomputable def cornUp (ps : List (Nat × Nat × Nat)) (c : Nat) (w : List Nat) (n : Nat) : List C4 := (List.range n).map (cornM ps c w)
noncomputable def cornAll (ps : List (Nat × Nat × Nat)) (ws : List (List Nat)) (n : Nat) : List C4 := (List.range n).flatMap fun c => cornUp ps c (ws.getD c []) (ws.getD c []).length
theorem cornUp_succ (ps : List (Nat × Nat × Nat)) (c : Nat) (w : List Nat) (n : Nat) : cornUp ps c w (n + 1) = cornUp ps c w n ++ [cornM ps c w n] := by unfold cornUp; rw [List.range_succ, List.map_append]; rfl
theorem cornAll_succ {ps : List (Nat × Nat × Nat)} {ws : List (List Nat)} {i : Nat} {w : List Nat} (h : ws[i]? = some w) : cornAll ps ws (i + 1) = cornAll ps ws i ++ cornUp ps i w w.length := by
  have e : ws.getD i [] = w := by rw [List.getD_eq_getElem?_getD, h]; rfl
  unfold cornAll
  rw [List.range_succ, List.flatMap_append]
  congr 1
  rw [List.flatMap_cons, List.flatMap_nil, List.append_nil, e]
noncomputable def lt2 (x y : C4) : Prop := x.1 < y.1 \/ (x.1 = y.1 /\ x.2.1 < y.2.1)
theorem cornUp_rise (ps : List (Nat × Nat × Nat)) (c : Nat) (w : List Nat) (n : Nat) : (cornUp ps c w n).Pairwise lt2 := by
  unfold cornUp
  rw [List.pairwise_map]
  exact List.pairwise_lt_range.imp fun {i j} h => .inr ⟨rfl, h⟩
theorem cornAll_mem {ps : List (Nat × Nat × Nat)} {ws : List (List Nat)} {n : Nat} {x : C4} (h : x ∈ cornAll ps ws n) : x.1 < n /\ x.2.1 < (ws.getD x.1 []).length := by
  obtain ⟨c, hc, hx⟩ := List.mem_flatMap.mp h
  obtain ⟨i, hi, rfl⟩ := List.mem_map.mp hx
  exact ⟨List.mem_range.mp hc, List.mem_range.mp hi⟩
theorem cornAll_rise (ps : List (Nat × Nat × Nat)) (ws : List (List Nat)) : ∀ n, n <= ws.length -> (cornAll ps ws n).Pairwise lt2
  | 0, _ => List.Pairwise.nil
  | n + 1, h => by
    rw [cornAll_succ (List.getElem?_eq_getElem (by omega : n < ws.length)), List.pairwise_append]
    refine ⟨cornAll_rise ps ws n (by omega), cornUp_rise _ _ _ _, fun x hx y hy => ?_⟩
    have h1 := (cornAll_mem hx).1
    obtain ⟨i, _, rfl⟩ := List.mem_map.mp hy
    exact .inl h1
noncomputable def inB (lo hi x : Int) : Bool := decide (lo < x) && decide (x < hi)
noncomputable def meetB (p q r s : Int) : Bool := !decide (inB (if q < p then q else p) (if q > p then q else p) r = inB (if q < p then q else p) (if q > p then q else p) s)
noncomputable def meets (x y : C4) : Bool := meetB x.2.2.1 x.2.2.2 y.2.2.1 y.2.2.2
noncomputable def meetRow (x : C4) (rs : List C4) : List C4 := (rs.filter (meets x)).map fun r => (x.1, x.2.1, r.1, r.2.1)
noncomputable def meetAll (cs : List C4) (n : Nat) : List C4 := (List.range n).flatMap fun k => meetRow (cs.getD k (0, 0, 0, 0)) (cs.drop (k + 1))
theorem meetRow_succ {x r : C4} {rs : List C4} {j : Nat} (h : rs[j]? = some r) : meetRow x (rs.take (j + 1)) = meetRow x (rs.take j) ++ if meets x r = true then [(x.1, x.2.1, r.1, r.2.1)] else [] := by
  unfold meetRow
  rw [<- take_snoc h, List.filter_append, List.map_append]
  congr 1
  by_cases z : meets x r = true
  · rw [if_pos z, List.filter_cons_of_pos z]; rfl
  · rw [if_neg z, List.filter_cons_of_neg z]; rfl
theorem meetAll_succ {cs : List C4} {k : Nat} {x : C4} (h : cs[k]? = some x) : meetAll cs (k + 1) = meetAll cs k ++ meetRow x (cs.drop (k + 1)) := by
  have e : cs.getD k (0, 0, 0, 0) = x := by rw [List.getD_eq_getElem?_getD, h]; rfl
  unfold meetAll
  rw [List.range_succ, List.flatMap_append]
  congr 1
  rw [List.flatMap_cons, List.flatMap_nil, List.append_nil, e]
noncomputable def r4 (x : C4) : List Int := [x.1, x.2.1, x.2.2.1, x.2.2.2]
theorem lex_no {a b c d a' b' c' d' : Nat} (h : a < a' \/ (a = a' /\ (b < b' \/ (b = b' /\ (c < c' \/ (c = c' /\ d < d')))))) : lexI [(a' : Int), b', c', d'] [(a : Int), b, c, d] = false := by
  unfold lexI lexI lexI lexI lexI
  repeat' split
  all_goals (first | rfl | (simp; omega) | omega)
theorem meetRow_mem {x y : C4} {rs : List C4} (h : y ∈ meetRow x rs) : ∃ r ∈ rs, y = (x.1, x.2.1, r.1, r.2.1) := by
  obtain ⟨r, hr, rfl⟩ := List.mem_map.mp h
  exact ⟨r, (List.mem_filter.mp hr).1, rfl⟩
theorem meetRow_rise {x : C4} {rs : List C4} (h : rs.Pairwise lt2) : (meetRow x rs).Pairwise fun a b => lexI (r4 b) (r4 a) = false := by
  unfold meetRow
  rw [List.pairwise_map]
  refine (h.filter _).imp fun {a b} g => ?_
  refine lex_no (.inr ⟨rfl, .inr ⟨rfl, ?_⟩⟩)
  rcases g with g | ⟨g1, g2⟩
  · exact .inl g
  · exact .inr ⟨g1, g2⟩
theorem meetAll_rise {cs : List C4} (h : cs.Pairwise lt2) : ∀ n, n <= cs.length -> (meetAll cs n).Pairwise fun a b => lexI (r4 b) (r4 a) = false
  | 0, _ => List.Pairwise.nil
  | n + 1, hn => by
    have hn2 : n < cs.length := by omega
    rw [meetAll_succ (List.getElem?_eq_getElem hn2), List.pairwise_append]
    refine ⟨meetAll_rise h n (by omega), meetRow_rise (h.sublist (List.drop_sublist _ _)), fun x hx y hy => ?_⟩
    obtain ⟨k, hk, hxk⟩ := List.mem_flatMap.mp hx
    have hk2 := List.mem_range.mp hk
    obtain ⟨r, _, rfl⟩ := meetRow_mem hxk
    obtain ⟨r2, _, rfl⟩ := meetRow_mem hy
    have e : cs.getD k (0, 0, 0, 0) = cs[k]'(by omega) := by rw [List.getD_eq_getElem?_getD, List.getElem?_eq_getElem (by omega)]; rfl
    rw [e]
    have g := List.pairwise_iff_getElem.mp h k n (by omega) hn2 hk2
    refine lex_no ?_
    rcases g with g | ⟨g1, g2⟩
    · exact .inl g
    · exact .inr ⟨g1, .inl g2⟩
structure Q4 where
  t : Addr
  v : C4
noncomputable def q4v (qs : List Q4) : List V := qs.map fun q => V.ref q.t
theorem q4v_len (qs : List Q4) : (q4v qs).length = qs.length := by unfold q4v; rw [List.length_map]
theorem q4v_snoc (a : List Q4) (q : Q4) : q4v a ++ [V.ref q.t] = q4v (a ++ [q]) := by unfold q4v; rw [List.map_append]; rfl
theorem q4v_at {qs : List Q4} {i : Nat} {x : V} (h : (q4v qs)[i]? = some x) : ∃ q, qs[i]? = some q /\ x = V.ref q.t := by
  unfold q4v at h
  rw [List.getElem?_map] at h
  cases e : qs[i]? with
  | none => rw [e] at h; cases h
  | some p => rw [e] at h; cases h; exact ⟨p, rfl, rfl⟩
noncomputable def Q4Ok (H : Hp) (q : Q4) : Prop := H q.t = some (.tup [.int q.v.1, .int q.v.2.1, .int q.v.2.2.1, .int q.v.2.2.2])
theorem Q4Ok.ts {H H' : Hp} {q : Q4} (h : Q4Ok H q) (s : TSame H H') : Q4Ok H' q := s _ _ h
theorem tps_of {K : PySem.W.Frag} {H : Hp} : ∀ {qs : List Q4}, (∀ q ∈ qs, Q4Ok H q) -> TpsV K H 3 (q4v qs) ((qs.map Q4.v).map r4)
  | [], _ => trivial
  | q :: qs, h => ⟨⟨q.t, rfl, SqT.of (h q List.mem_cons_self), rfl⟩, tps_of fun r hr => h r (List.mem_cons_of_mem _ hr)⟩
noncomputable def qD (x : C4) : PyData := .tuple [.int x.1, .int x.2.1, .int x.2.2.1, .int x.2.2.2]
theorem rdds_q4 {K : PySem.W.Frag} {H : Hp} : ∀ {qs : List Q4}, (∀ q ∈ qs, Q4Ok H q) -> RdDs K H (q4v qs) ((qs.map Q4.v).map qD)
  | [], _ => .nil
  | q :: qs, h => .cons (.tup (SqT.of (h q List.mem_cons_self)) (.cons (.int _) (.cons (.int _) (.cons (.int _) (.cons (.int _) .nil))))) (rdds_q4 fun r hr => h r (List.mem_cons_of_mem _ hr))
theorem SmD.intS {k : Nat} {i : Nat} (h : i < 16) : SmD k 4 (.int i) := by
  have e : SmD k 40 (.int (i : Int)) := .int (by omega) (by decide)
  refine ⟨e.lv, e.sh, e.ly, e.dp, ?_⟩
  show (if (i : Int) == 0 then 0 else (i : Int).natAbs.log2 + 1) <= 4
  have : ∀ j < 16, (if ((j : Nat) : Int) == 0 then 0 else ((j : Nat) : Int).natAbs.log2 + 1) <= 4 := by decide +kernel
  exact this i h
theorem sm_q4 {ns : List C4} (h : ∀ x ∈ ns, x.1 < 16 /\ x.2.1 < 16 /\ x.2.2.1 < 16 /\ x.2.2.2 < 16) (hz : ns.length <= 4000) : SmD 40 100000 (.list (ns.map qD)) := by
  refine .lst (.all (a := 20) (fun x hx => ?_) (by rw [List.length_map]; omega))
  obtain ⟨q, hq, rfl⟩ := List.mem_map.mp hx
  obtain ⟨h1, h2, h3, h4⟩ := h q hq
  exact .tup (.cons (a := 4) (b := 15) (SmD.intS h1) (.cons (a := 4) (b := 10) (SmD.intS h2) (.cons (a := 4) (b := 5) (SmD.intS h3) (.cons (a := 4) (b := 0) (SmD.intS h4) .nil (by decide)) (by decide)) (by decide)) (by decide))
noncomputable def corns (y : List Nat) (ws : List (List Nat)) (os : List Od) : List C4 := cornAll (pts y os) ws ws.length
noncomputable def mtgs (y : List Nat) (ws : List (List Nat)) (os : List Od) : List C4 := meetAll (corns y ws os) (corns y ws os).length
theorem corns_small {y : List Nat} {ws : List (List Nat)} {os : List Od} (h : WsOk y ws) {x : C4} (hx : x ∈ corns y ws os) : x.1 < 16 /\ x.2.1 < 16 := by
  obtain ⟨h1, h2⟩ := cornAll_mem hx
  have hf := h.few
  have e : ws.getD x.1 [] = ws[x.1] := by rw [List.getD_eq_getElem?_getD, List.getElem?_eq_getElem h1]; rfl
  rw [e] at h2
  have := (h.all _ (List.getElem_mem h1)).2
  exact ⟨by omega, by omega⟩
theorem cornAll_len {ps : List (Nat × Nat × Nat)} {ws : List (List Nat)} (hw : ∀ w ∈ ws, w.length <= 12) : ∀ n, n <= ws.length -> (cornAll ps ws n).length <= 12 * n
  | 0, _ => Nat.le_refl _
  | n + 1, h => by
    have hn : n < ws.length := by omega
    rw [cornAll_succ (List.getElem?_eq_getElem hn), List.length_append]
    have h1 := cornAll_len (ps := ps) hw n (by omega)
    have h3 := hw _ (List.getElem_mem hn)
    unfold cornUp
    rw [List.length_map, List.length_range]
    omega
theorem corns_len {y : List Nat} {ws : List (List Nat)} {os : List Od} (h : WsOk y ws) : (corns y ws os).length <= 48 := by
  have := cornAll_len (ps := pts y os) (fun w hw => (h.all w hw).2) ws.length (Nat.le_refl _)
  have := h.few
  unfold corns
  omega
theorem meetAll_len {cs : List C4} : ∀ n, n <= cs.length -> (meetAll cs n).length <= cs.length * n
  | 0, _ => Nat.zero_le _
  | n + 1, h => by
    have hn : n < cs.length := by omega
    rw [meetAll_succ (List.getElem?_eq_getElem hn), List.length_append]
    have h1 := meetAll_len n (by omega : n <= cs.length)
    have h2 : (meetRow cs[n] (cs.drop (n + 1))).length <= cs.length := by
      unfold meetRow
      rw [List.length_map]
      exact Nat.le_trans (List.length_filter_le _ _) (by rw [List.length_drop]; omega)
    rw [Nat.mul_succ]
    omega
theorem mtgs_small {y : List Nat} {ws : List (List Nat)} {os : List Od} (h : WsOk y ws) : ∀ x ∈ mtgs y ws os, x.1 < 16 /\ x.2.1 < 16 /\ x.2.2.1 < 16 /\ x.2.2.2 < 16 := fun x hx => by
  obtain ⟨k, hk, hxk⟩ := List.mem_flatMap.mp hx
  have hk2 := List.mem_range.mp hk
  obtain ⟨r, hr, rfl⟩ := meetRow_mem hxk
  have e : (corns y ws os).getD k (0, 0, 0, 0) = (corns y ws os)[k] := by rw [List.getD_eq_getElem?_getD, List.getElem?_eq_getElem hk2]; rfl
  rw [e]
  obtain ⟨a1, a2⟩ := corns_small h (List.getElem_mem hk2)
  obtain ⟨b1, b2⟩ := corns_small h (List.mem_of_mem_drop hr)
  exact ⟨a1, a2, b1, b2⟩
theorem mtgs_len {y : List Nat} {ws : List (List Nat)} {os : List Od} (h : WsOk y ws) : (mtgs y ws os).length <= 2304 := by
  have h1 := meetAll_len (cs := corns y ws os) _ (Nat.le_refl _)
  have h2 := corns_len (os := os) h
  have h3 : (corns y ws os).length * (corns y ws os).length <= 48 * 48 := Nat.mul_le_mul h2 h2
  exact Nat.le_trans h1 h3
theorem pt_ne {y : List Nat} {os : List Od} {p : Pt} {ps : List Pt} (h : ps.map Pt.is = pts y os) {i : Nat} (hi : ps[i]? = some p) : (pts y os)[i]? = some p.is := by rw [<- h, List.getElem?_map, hi]; rfl
noncomputable def sp_corner_points (_ : PySem.W.Frag) : Sp := fun vs H Q _ => ∃ (w : List Nat) (c i : Nat), vs = [.str (S w), .int c, .int i] /\ (∀ l ∈ w, l < 128) /\ i < w.length /\ w.length <= 1000 /\ ∀ (t t1 t2 : Addr) (H' : Hp), H' t = some (.tup [.ref t1, .ref t2]) -> H' t1 = some (.tup ((key3 (c, prd w.length i, ctr (w.getD (prd w.length i) 0))).map kV)) -> H' t2 = some (.tup ((key3 (c, i, w.getD i 0)).map kV)) -> Same H H' -> Q (.ref t) H'
theorem len_corner_points {K : PySem.W.Frag} {vs : List V} {H : Hp} {Q : VK} {E : XK} (h : sp_corner_points K vs H Q E) : vs.length = 3 := by obtain ⟨c, _, _, rfl, _⟩ := h; rfl
noncomputable def sp_corners (_ : PySem.W.Frag) : Sp := fun vs H Q _ => ∃ (y : List Nat) (dr : Addr) (ws : List (List Nat)) (os : List Od), vs = [.str (S y), .ref dr] /\ Yd y /\ y.length <= 8 /\ WsOk y ws /\ OsOk y ws os /\ DrAt H dr ws os /\ ∀ (q : Addr) (qs : List Q4) (H' : Hp), H q = none -> H' q = some (.lst (q4v qs)) -> (∀ x ∈ qs, Q4Ok H' x) -> qs.map Q4.v = corns y ws os -> Same H H' -> Q (.ref q) H'
theorem len_corners {K : PySem.W.Frag} {vs : List V} {H : Hp} {Q : VK} {E : XK} (h : sp_corners K vs H Q E) : vs.length = 2 := by obtain ⟨c, _, _, _, rfl, _⟩ := h; rfl
noncomputable def sp_corners_meet (_ : PySem.W.Frag) : Sp := fun vs H Q _ => ∃ (a b : Q4), vs = [.ref a.t, .ref b.t] /\ Q4Ok H a /\ Q4Ok H b /\ Q (.bl (meets a.v b.v)) H
theorem len_corners_meet {K : PySem.W.Frag} {vs : List V} {H : Hp} {Q : VK} {E : XK} (h : sp_corners_meet K vs H Q E) : vs.length = 2 := by obtain ⟨c, _, rfl, _⟩ := h; rfl
noncomputable def sp_meetings (_ : PySem.W.Frag) : Sp := fun vs H Q _ => ∃ (y : List Nat) (dr : Addr) (ws : List (List Nat)) (os : List Od), vs = [.str (S y), .ref dr] /\ Yd y /\ y.length <= 8 /\ WsOk y ws /\ OsOk y ws os /\ DrAt H dr ws os /\ ∀ (q : Addr) (qs : List Q4) (H' : Hp), H q = none -> H' q = some (.lst (q4v qs)) -> (∀ x ∈ qs, Q4Ok H' x) -> qs.map Q4.v = mtgs y ws os -> Same H H' -> Q (.ref q) H'
theorem len_meetings {K : PySem.W.Frag} {vs : List V} {H : Hp} {Q : VK} {E : XK} (h : sp_meetings K vs H Q E) : vs.length = 2 := by obtain ⟨c, _, _, _, rfl, _⟩ := h; rfl
structure NumX (ps : List (Nat × Nat × Nat)) (kvs : List (List Key × V)) (n : Nat) : Prop where
  told : Nums ps kvs n
  no : ∀ p, p ∉ ps.take n -> valV kvs (key3 p) = none
  len : kvs.length = n
noncomputable abbrev P3 := Nat × Nat × Nat
noncomputable def cells (ws : List (List Nat)) : List (Nat × Nat) := (List.range ws.length).flatMap fun c => (List.range (ws.getD c []).length).map fun i => (c, i)
noncomputable def mtL (X : Nat × Nat -> Nat × Nat -> Bool) : List (Nat × Nat) -> List C4
  | [] => []
  | a :: rs => ((rs.filter (X a)).map fun b => (a.1, a.2, b.1, b.2)) ++ mtL X rs
noncomputable def cnr (ps : List P3) (ws : List (List Nat)) (a : Nat × Nat) : C4 := cornM ps a.1 (ws.getD a.1 []) a.2
noncomputable def lt2p (x y : Nat × Nat) : Prop := x.1 < y.1 \/ (x.1 = y.1 /\ x.2 < y.2)
noncomputable instance (x y : Nat × Nat) : Decidable (lt2p x y) := by unfold lt2p; infer_instance
theorem corn_cells (ps : List P3) (ws : List (List Nat)) : cornAll ps ws ws.length = (cells ws).map (cnr ps ws) := by
  unfold cornAll cells
  rw [List.map_flatMap]
  congr 1
  funext c
  unfold cornUp
  rw [List.map_map]
  rfl
theorem cells_rise (ws : List (List Nat)) : (cells ws).Pairwise lt2p := by
  have h := cornAll_rise [] ws ws.length (Nat.le_refl _)
  rw [corn_cells, List.pairwise_map] at h
  exact h
theorem lt2p_ne {a b : Nat × Nat} (h : lt2p a b) : a ≠ b := fun z => by
  subst z
  unfold lt2p at h
  omega
theorem lt2p_or {a b : Nat × Nat} (h : a ≠ b) : lt2p a b \/ lt2p b a := by
  unfold lt2p
  have : ¬ (a.1 = b.1 /\ a.2 = b.2) := fun z => h (Prod.ext z.1 z.2)
  omega
theorem lt2p_asym {a b : Nat × Nat} (h : lt2p a b) : ¬ lt2p b a := by
  unfold lt2p at *
  omega
theorem cells_nd (ws : List (List Nat)) : (cells ws).Nodup := (cells_rise ws).imp fun h => lt2p_ne h
theorem mem_cells {ws : List (List Nat)} {a : Nat × Nat} : a ∈ cells ws ↔ a.1 < ws.length /\ a.2 < (ws.getD a.1 []).length := by
  constructor
  · intro h
    obtain ⟨c, hc, hx⟩ := List.mem_flatMap.mp h
    obtain ⟨i, hi, rfl⟩ := List.mem_map.mp hx
    exact ⟨List.mem_range.mp hc, List.mem_range.mp hi⟩
  · intro h
    exact List.mem_flatMap.mpr ⟨a.1, List.mem_range.mpr h.1, List.mem_map.mpr ⟨a.2, List.mem_range.mpr h.2, rfl⟩⟩
theorem meetAll_cons (x : C4) (cs : List C4) : meetAll (x :: cs) (cs.length + 1) = meetRow x cs ++ meetAll cs cs.length := by
  unfold meetAll
  rw [List.range_succ_eq_map, List.flatMap_cons, List.flatMap_map]
  rfl
theorem meetAll_map {f : Nat × Nat -> C4} (hf : ∀ a, (f a).1 = a.1 /\ (f a).2.1 = a.2) : ∀ L : List (Nat × Nat), meetAll (L.map f) (L.map f).length = mtL (fun a b => meets (f a) (f b)) L
  | [] => rfl
  | a :: L => by
    rw [List.map_cons, List.length_cons, meetAll_cons, meetAll_map hf L]
    show _ = ((L.filter fun b => meets (f a) (f b)).map fun b => (a.1, a.2, b.1, b.2)) ++ mtL (fun a b => meets (f a) (f b)) L
    congr 1
    unfold meetRow
    rw [List.filter_map, List.map_map]
    refine List.map_congr_left fun b _ => ?_
    show ((f a).1, (f a).2.1, (f b).1, (f b).2.1) = _
    rw [(hf a).1, (hf a).2, (hf b).1, (hf b).2]
theorem mtgs_cells (y : List Nat) (ws : List (List Nat)) (os : List Od) : mtgs y ws os = mtL (fun a b => meets (cnr (pts y os) ws a) (cnr (pts y os) ws b)) (cells ws) := by
  unfold mtgs corns
  rw [corn_cells]
  exact meetAll_map (fun a => ⟨rfl, rfl⟩) _
theorem mtL_congr {X X' : Nat × Nat -> Nat × Nat -> Bool} : ∀ {L : List (Nat × Nat)}, L.Nodup -> (∀ a ∈ L, ∀ b ∈ L, a ≠ b -> X a b = X' a b) -> mtL X L = mtL X' L
  | [], _, _ => rfl
  | a :: L, hn, h => by
    obtain ⟨n1, n2⟩ := List.nodup_cons.mp hn
    show ((L.filter (X a)).map fun b => (a.1, a.2, b.1, b.2)) ++ mtL X L = ((L.filter (X' a)).map fun b => (a.1, a.2, b.1, b.2)) ++ mtL X' L
    rw [mtL_congr n2 fun c hc d hd => h c (List.mem_cons_of_mem _ hc) d (List.mem_cons_of_mem _ hd)]
    congr 2
    exact List.filter_congr fun b hb => h a List.mem_cons_self b (List.mem_cons_of_mem _ hb) fun z => n1 (z ▸ hb)
theorem mtL_sub {X : Nat × Nat -> Nat × Nat -> Bool} {z : C4} : ∀ {L : List (Nat × Nat)}, z ∈ mtL X L -> (z.1, z.2.1) ∈ L /\ (z.2.2.1, z.2.2.2) ∈ L
  | [], h => absurd h List.not_mem_nil
  | a :: L, h => by
    rcases List.mem_append.mp (show z ∈ ((L.filter (X a)).map fun b => (a.1, a.2, b.1, b.2)) ++ mtL X L from h) with g | g
    · obtain ⟨b, hb, rfl⟩ := List.mem_map.mp g
      exact ⟨List.mem_cons_self, List.mem_cons_of_mem _ (List.mem_filter.mp hb).1⟩
    · have := mtL_sub g
      exact ⟨List.mem_cons_of_mem _ this.1, List.mem_cons_of_mem _ this.2⟩
theorem mtL_nd {X : Nat × Nat -> Nat × Nat -> Bool} : ∀ {L : List (Nat × Nat)}, L.Nodup -> (mtL X L).Nodup
  | [], _ => List.nodup_nil
  | a :: L, hn => by
    obtain ⟨n1, n2⟩ := List.nodup_cons.mp hn
    show (((L.filter (X a)).map fun b => (a.1, a.2, b.1, b.2)) ++ mtL X L).Nodup
    rw [List.nodup_append]
    refine ⟨?_, mtL_nd n2, fun x hx z hz e => ?_⟩
    · show (List.map _ _).Pairwise (· ≠ ·)
      rw [List.pairwise_map]
      exact (n2.filter _).imp fun {b c} g z => g (by
        have e := congrArg (fun q : C4 => q.2.2) z
        exact e)
    · subst e
      obtain ⟨b, hb, rfl⟩ := List.mem_map.mp hx
      exact n1 (mtL_sub hz).1
theorem mtL_mem {X : Nat × Nat -> Nat × Nat -> Bool} {a b : Nat × Nat} : ∀ {L : List (Nat × Nat)}, L.Pairwise lt2p -> ((a.1, a.2, b.1, b.2) ∈ mtL X L ↔ a ∈ L /\ b ∈ L /\ lt2p a b /\ X a b = true)
  | [], _ => ⟨fun h => absurd h List.not_mem_nil, fun h => absurd h.1 List.not_mem_nil⟩
  | c :: L, hp => by
    obtain ⟨h1, h2⟩ := List.pairwise_cons.mp hp
    have ih := mtL_mem (X := X) (a := a) (b := b) h2
    show _ ∈ ((L.filter (X c)).map fun b => (c.1, c.2, b.1, b.2)) ++ mtL X L ↔ _
    rw [List.mem_append, ih]
    constructor
    · rintro (g | g)
      · obtain ⟨d, hd, e⟩ := List.mem_map.mp g
        obtain ⟨d1, d2⟩ := List.mem_filter.mp hd
        have e1 : c = a := Prod.ext (congrArg (fun q : C4 => q.1) e) (congrArg (fun q : C4 => q.2.1) e)
        have e2 : d = b := congrArg (fun q : C4 => q.2.2) e
        subst e1 e2
        exact ⟨List.mem_cons_self, List.mem_cons_of_mem _ d1, h1 d d1, d2⟩
      · exact ⟨List.mem_cons_of_mem _ g.1, List.mem_cons_of_mem _ g.2.1, g.2.2⟩
    · rintro ⟨ha, hb, hl, hx⟩
      rcases List.mem_cons.mp ha with z | z
      · subst z
        rcases List.mem_cons.mp hb with z2 | z2
        · exact absurd z2.symm (lt2p_ne hl)
        · exact .inl (List.mem_map.mpr ⟨b, List.mem_filter.mpr ⟨z2, hx⟩, rfl⟩)
      · rcases List.mem_cons.mp hb with z2 | z2
        · subst z2
          exact absurd (h1 a z) (lt2p_asym hl)
        · exact .inr ⟨z, z2, hl, hx⟩
theorem mtgs_rise (y : List Nat) (ws : List (List Nat)) (os : List Od) : (mtgs y ws os).Pairwise fun a b => lexI (r4 b) (r4 a) = false := meetAll_rise (cornAll_rise _ ws ws.length (Nat.le_refl _)) _ (Nat.le_refl _)
theorem lex_anti {a b : C4} (h1 : lexI (r4 b) (r4 a) = false) (h2 : lexI (r4 a) (r4 b) = false) : a = b := by
  obtain ⟨a1, a2, a3, a4⟩ := a
  obtain ⟨b1, b2, b3, b4⟩ := b
  unfold r4 at h1 h2
  unfold lexI lexI lexI lexI lexI at h1 h2
  simp only at h1 h2
  have : a1 = b1 /\ a2 = b2 /\ a3 = b3 /\ a4 = b4 := by
    repeat' split at h1
    all_goals (repeat' split at h2)
    all_goals (simp at h1 h2; try omega)
  obtain ⟨rfl, rfl, rfl, rfl⟩ := this
  rfl
theorem rise4_eq {a b : List C4} (h : a.Perm b) (ha : a.Pairwise fun x y => lexI (r4 y) (r4 x) = false) (hb : b.Pairwise fun x y => lexI (r4 y) (r4 x) = false) : a = b :=
  List.Perm.eq_of_pairwise (fun x y _ _ h1 h2 => lex_anti h1 h2) ha hb h
noncomputable def meetP (p q r s : Int) : Prop := ¬ ((p < r /\ r < q \/ q < r /\ r < p) ↔ (p < s /\ s < q \/ q < s /\ s < p))
noncomputable instance (p q r s : Int) : Decidable (meetP p q r s) := by unfold meetP; infer_instance
theorem inB_eq (p q x : Int) : inB (if q < p then q else p) (if q > p then q else p) x = decide (p < x /\ x < q \/ q < x /\ x < p) := by
  unfold inB
  rw [<- Bool.decide_and]
  refine decide_eq_decide.mpr ?_
  split <;> split <;> omega
theorem meetB_eq (p q r s : Int) : meetB p q r s = decide (meetP p q r s) := by
  unfold meetB meetP
  rw [inB_eq, inB_eq, <- decide_not]
  refine decide_eq_decide.mpr (not_congr ?_)
  rw [decide_eq_decide]
noncomputable def cross (ps : List P3) (p q r s : P3) : Bool := meetB (ps.idxOf p : Nat) (ps.idxOf q : Nat) (ps.idxOf r : Nat) (ps.idxOf s : Nat)
structure Four (ps : List P3) (p q r s : P3) : Prop where
  ip : p ∈ ps
  iq : q ∈ ps
  ir : r ∈ ps
  is : s ∈ ps
  pq : p ≠ q
  pr : p ≠ r
  ps : p ≠ s
  qr : q ≠ r
  qs : q ≠ s
  rs : r ≠ s
theorem ix_ne {l : List P3} {u v : P3} (hu : u ∈ l) (hv : v ∈ l) (h : u ≠ v) : l.idxOf u ≠ l.idxOf v := fun z => h (by
  have e1 := List.getElem_idxOf (List.idxOf_lt_length_of_mem hu)
  have e2 := List.getElem_idxOf (List.idxOf_lt_length_of_mem hv)
  rw [<- e1, <- e2]
  congr 1)
theorem meetP_rot {a b : Nat} {p q r s p' q' r' s' : Nat} (np : p ≠ q) (n2 : p ≠ r) (n3 : p ≠ s) (n4 : q ≠ r) (n5 : q ≠ s) (n6 : r ≠ s)
    (hp : (p < a /\ p' = p + b) \/ (a <= p /\ p' + a = p /\ p < a + b)) (hq : (q < a /\ q' = q + b) \/ (a <= q /\ q' + a = q /\ q < a + b)) (hr : (r < a /\ r' = r + b) \/ (a <= r /\ r' + a = r /\ r < a + b)) (hs : (s < a /\ s' = s + b) \/ (a <= s /\ s' + a = s /\ s < a + b)) : meetP p' q' r' s' ↔ meetP p q r s := by
  unfold meetP
  rcases hp with hp | hp <;> rcases hq with hq | hq <;> rcases hr with hr | hr <;> rcases hs with hs | hs <;> omega
theorem ix_rot {A B : List P3} (nd : (A ++ B).Nodup) {x : P3} (hx : x ∈ A ++ B) : ((A ++ B).idxOf x < A.length /\ (B ++ A).idxOf x = (A ++ B).idxOf x + B.length) \/ (A.length <= (A ++ B).idxOf x /\ (B ++ A).idxOf x + A.length = (A ++ B).idxOf x /\ (A ++ B).idxOf x < A.length + B.length) := by
  have hl := List.idxOf_lt_length_of_mem hx
  rw [List.length_append] at hl
  obtain ⟨_, _, dj⟩ := List.nodup_append.mp nd
  rw [List.idxOf_append, List.idxOf_append] at *
  by_cases ha : x ∈ A
  · have hb : x ∉ B := fun z => dj x ha x z rfl
    rw [if_pos ha, if_neg hb]
    have := List.idxOf_lt_length_of_mem ha
    exact .inl ⟨this, rfl⟩
  · have hb : x ∈ B := (List.mem_append.mp hx).resolve_left ha
    rw [if_neg ha, if_pos hb]
    have := List.idxOf_lt_length_of_mem hb
    exact .inr ⟨by omega, rfl, by omega⟩
theorem cross_rot {A B : List P3} (nd : (A ++ B).Nodup) {p q r s : P3} (h : Four (A ++ B) p q r s) : cross (B ++ A) p q r s = cross (A ++ B) p q r s := by
  unfold cross
  rw [meetB_eq, meetB_eq]
  exact decide_eq_decide.mpr (meetP_rot (ix_ne h.ip h.iq h.pq) (ix_ne h.ip h.ir h.pr) (ix_ne h.ip h.is h.ps) (ix_ne h.iq h.ir h.qr) (ix_ne h.iq h.is h.qs) (ix_ne h.ir h.is h.rs) (ix_rot nd h.ip) (ix_rot nd h.iq) (ix_rot nd h.ir) (ix_rot nd h.is))
theorem ix_rev {l : List P3} (nd : l.Nodup) {x : P3} (hx : x ∈ l) : l.reverse.idxOf x + l.idxOf x + 1 = l.length := by
  have hl := List.idxOf_lt_length_of_mem hx
  have e : l.reverse[l.length - 1 - l.idxOf x]? = some x := by
    rw [List.getElem?_reverse (by omega), show l.length - 1 - (l.length - 1 - l.idxOf x) = l.idxOf x by omega, List.getElem?_eq_getElem hl, List.getElem_idxOf hl]
  have := idx_at_nd ((List.reverse_perm l).nodup_iff.mpr nd) e
  omega
theorem cross_rev {l : List P3} (nd : l.Nodup) {p q r s : P3} (h : Four l p q r s) : cross l.reverse p q r s = cross l p q r s := by
  unfold cross
  rw [meetB_eq, meetB_eq]
  refine decide_eq_decide.mpr ?_
  have n1 := ix_ne h.ip h.iq h.pq
  have n2 := ix_ne h.ip h.ir h.pr
  have n3 := ix_ne h.ip h.is h.ps
  have n4 := ix_ne h.iq h.ir h.qr
  have n5 := ix_ne h.iq h.is h.qs
  have n6 := ix_ne h.ir h.is h.rs
  have hp := ix_rev nd h.ip
  have hq := ix_rev nd h.iq
  have hr := ix_rev nd h.ir
  have hs := ix_rev nd h.is
  unfold meetP
  omega
theorem ix_map {l : List P3} {f : P3 -> P3} (nd : (l.map f).Nodup) {x : P3} (hx : x ∈ l) : (l.map f).idxOf (f x) = l.idxOf x := by
  have hl := List.idxOf_lt_length_of_mem hx
  refine idx_at_nd nd ?_
  rw [List.getElem?_map, List.getElem?_eq_getElem hl, List.getElem_idxOf hl]
  rfl
theorem cross_map {l : List P3} {f : P3 -> P3} (nd : (l.map f).Nodup) {p q r s : P3} (h : Four l p q r s) : cross (l.map f) (f p) (f q) (f r) (f s) = cross l p q r s := by
  unfold cross
  rw [ix_map nd h.ip, ix_map nd h.iq, ix_map nd h.ir, ix_map nd h.is]
theorem cross_sym {l : List P3} {p q r s : P3} (h : Four l p q r s) : cross l r s p q = cross l p q r s := by
  unfold cross
  rw [meetB_eq, meetB_eq]
  refine decide_eq_decide.mpr ?_
  have n1 := ix_ne h.ip h.iq h.pq
  have n2 := ix_ne h.ip h.ir h.pr
  have n3 := ix_ne h.ip h.is h.ps
  have n4 := ix_ne h.iq h.ir h.qr
  have n5 := ix_ne h.iq h.is h.qs
  have n6 := ix_ne h.ir h.is h.rs
  unfold meetP
  omega
noncomputable def ltr (ws : List (List Nat)) (a : Nat × Nat) : Nat := (ws.getD a.1 []).getD a.2 0
noncomputable def prA (ws : List (List Nat)) (a : Nat × Nat) : Nat × Nat := (a.1, prd (ws.getD a.1 []).length a.2)
noncomputable def cq (ws : List (List Nat)) (a : Nat × Nat) : P3 := (a.1, a.2, ltr ws a)
noncomputable def cp (ws : List (List Nat)) (a : Nat × Nat) : P3 := ((prA ws a).1, (prA ws a).2, ctr (ltr ws (prA ws a)))
theorem cnr_cross (ps : List P3) (ws : List (List Nat)) (a b : Nat × Nat) : meets (cnr ps ws a) (cnr ps ws b) = cross ps (cp ws a) (cq ws a) (cp ws b) (cq ws b) := rfl
theorem prA_cells {ws : List (List Nat)} {a : Nat × Nat} (h : a ∈ cells ws) : prA ws a ∈ cells ws := by
  have := mem_cells.mp h
  exact mem_cells.mpr ⟨this.1, prd_lt this.2⟩
theorem prd_inj {n i j : Nat} (hi : i < n) (hj : j < n) (e : prd n i = prd n j) : i = j := by
  unfold prd at e
  split at e <;> split at e <;> omega
theorem prA_inj {ws : List (List Nat)} {a b : Nat × Nat} (ha : a ∈ cells ws) (hb : b ∈ cells ws) (e : prA ws a = prA ws b) : a = b := by
  have h1 := mem_cells.mp ha
  have h2 := mem_cells.mp hb
  have e1 : a.1 = b.1 := (show (prA ws a).1 = (prA ws b).1 by rw [e])
  have e2 : prd (ws.getD a.1 []).length a.2 = prd (ws.getD b.1 []).length b.2 := congrArg (fun q : Nat × Nat => q.2) e
  rw [<- e1] at e2 h2
  exact Prod.ext e1 (prd_inj h1.2 h2.2 e2)
theorem ltr_at {ws : List (List Nat)} {a : Nat × Nat} (h : a ∈ cells ws) : ∃ w, ws[a.1]? = some w /\ ws.getD a.1 [] = w /\ w[a.2]? = some (ltr ws a) /\ w ∈ ws := by
  obtain ⟨h1, h2⟩ := mem_cells.mp h
  have e : ws.getD a.1 [] = ws[a.1] := by rw [List.getD_eq_getElem?_getD, List.getElem?_eq_getElem h1]; rfl
  refine ⟨_, List.getElem?_eq_getElem h1, e, ?_, List.getElem_mem h1⟩
  rw [e] at h2
  unfold ltr
  rw [e, List.getElem?_eq_getElem h2, List.getD_eq_getElem?_getD, List.getElem?_eq_getElem h2]
  rfl
theorem ltr_in {y : List Nat} {ws : List (List Nat)} {a : Nat × Nat} (hw : WsOk y ws) (h : a ∈ cells ws) : ltr ws a ∈ y := by
  obtain ⟨w, _, _, h3, h4⟩ := ltr_at h
  exact (hw.all w h4).1 _ (List.mem_of_getElem? h3)
theorem cq_in {y : List Nat} {ws : List (List Nat)} {os : List Od} {a : Nat × Nat} (hy : Yd y) (hw : WsOk y ws) (ho : OsOk y ws os) (h : a ∈ cells ws) : cq ws a ∈ pts y os := by
  obtain ⟨w, h1, _, h3, h4⟩ := ltr_at h
  exact pt_in hy ho h1 h3 (ltr_in hw h) (.inl rfl)
theorem cp_in {y : List Nat} {ws : List (List Nat)} {os : List Od} {a : Nat × Nat} (hy : Yd y) (hw : WsOk y ws) (ho : OsOk y ws os) (h : a ∈ cells ws) : cp ws a ∈ pts y os := by
  obtain ⟨w, h1, _, h3, h4⟩ := ltr_at (prA_cells h)
  exact pt_in hy ho h1 h3 (ltr_in hw (prA_cells h)) (.inr rfl)
theorem cpq_ne {y : List Nat} {ws : List (List Nat)} {a b : Nat × Nat} (hy : Yd y) (hw : WsOk y ws) (hb : b ∈ cells ws) : cp ws a ≠ cq ws b := fun z => by
  have e : prA ws a = b := Prod.ext (congrArg (fun q : P3 => q.1) z) (congrArg (fun q : P3 => q.2.1) z)
  have e2 : ctr (ltr ws (prA ws a)) = ltr ws b := congrArg (fun q : P3 => q.2.2) z
  rw [e] at e2
  exact ctr_ne (hy.lt _ (ltr_in hw hb)) e2
theorem four_of {y : List Nat} {ws : List (List Nat)} {os : List Od} {a b : Nat × Nat} (hy : Yd y) (hw : WsOk y ws) (ho : OsOk y ws os) (ha : a ∈ cells ws) (hb : b ∈ cells ws) (n : a ≠ b) : Four (pts y os) (cp ws a) (cq ws a) (cp ws b) (cq ws b) where
  ip := cp_in hy hw ho ha
  iq := cq_in hy hw ho ha
  ir := cp_in hy hw ho hb
  is := cq_in hy hw ho hb
  pq := cpq_ne hy hw ha
  pr := fun z => n (prA_inj ha hb (Prod.ext (congrArg (fun q : P3 => q.1) z) (congrArg (fun q : P3 => q.2.1) z)))
  ps := cpq_ne hy hw hb
  qr := fun z => cpq_ne hy hw ha z.symm
  qs := fun z => n (Prod.ext (congrArg (fun q : P3 => q.1) z) (congrArg (fun q : P3 => q.2.1) z))
  rs := cpq_ne hy hw hb
theorem mtgs_via {y y' : List Nat} {ws ws' : List (List Nat)} {os os' : List Od} (hc : cells ws' = cells ws) (h : ∀ a ∈ cells ws, ∀ b ∈ cells ws, a ≠ b -> cross (pts y' os') (cp ws' a) (cq ws' a) (cp ws' b) (cq ws' b) = cross (pts y os) (cp ws a) (cq ws a) (cp ws b) (cq ws b)) : mtgs y' ws' os' = mtgs y ws os := by
  rw [mtgs_cells, mtgs_cells, hc]
  exact mtL_congr (cells_nd ws) fun a ha b hb n => h a ha b hb n
noncomputable def odL (y : List Nat) (L : Ords) (e : Nat) : List (Nat × Nat) := (L[(bsOf y).idxOf (PyProof.Rows.lo1 e)]?).getD []
noncomputable def stL (y : List Nat) (L : Ords) (e : Nat) : List (Nat × Nat) := if isUp e = true then (odL y L e).reverse else odL y L e
noncomputable def ptL (y : List Nat) (L : Ords) (e : Nat) : List P3 := (stL y L e).map fun q => (q.1, q.2, e)
noncomputable def ptsL (y : List Nat) (L : Ords) : List P3 := y.flatMap (ptL y L)
theorem odAt_prs {y : List Nat} {os : List Od} {e : Nat} : (odAt y os e).map Pr.pair = odL y (os.map prs) e := by
  unfold odAt odL
  rw [List.getElem?_map]
  cases os[(bsOf y).idxOf (PyProof.Rows.lo1 e)]? <;> rfl
theorem pts_L (y : List Nat) (os : List Od) : pts y os = ptsL y (os.map prs) := by
  unfold pts ptsL
  congr 1
  funext e
  have g : ptsAt y os e = ((stA y os e).map Pr.pair).map fun q => (q.1, q.2, e) := by unfold ptsAt; rw [List.map_map]; rfl
  rw [g]
  unfold ptL stL stA
  split
  · rw [List.map_reverse, odAt_prs]
  · rw [odAt_prs]
theorem ptL_congr {y y' : List Nat} (h : bsOf y' = bsOf y) (L : Ords) : ptL y' L = ptL y L := by
  funext e
  unfold ptL stL odL
  rw [h]
theorem mtgs_rot {y A B : List Nat} {ws : List (List Nat)} {os : List Od} (e : y = A ++ B) (hy : Yd y) (hw : WsOk y ws) (ho : OsOk y ws os) : mtgs (B ++ A) ws os = mtgs y ws os := by
  subst e
  refine mtgs_via rfl fun a ha b hb n => ?_
  have f := four_of hy hw ho ha hb n
  have nd := pts_nd hy ho
  have e1 : pts (A ++ B) os = A.flatMap (ptL (A ++ B) (os.map prs)) ++ B.flatMap (ptL (A ++ B) (os.map prs)) := by rw [pts_L]; unfold ptsL; rw [List.flatMap_append]
  have e2 : pts (B ++ A) os = B.flatMap (ptL (A ++ B) (os.map prs)) ++ A.flatMap (ptL (A ++ B) (os.map prs)) := by rw [pts_L]; unfold ptsL; rw [List.flatMap_append, ptL_congr (bsOf_same List.perm_append_comm)]
  rw [e1] at f nd ⊢
  rw [e2]
  exact cross_rot nd f
theorem rev_flat {α : Type} (f : Nat -> List α) : ∀ l : List Nat, (l.flatMap f).reverse = l.reverse.flatMap fun e => (f e).reverse
  | [] => rfl
  | a :: l => by rw [List.flatMap_cons, List.reverse_append, rev_flat f l, List.reverse_cons, List.flatMap_append, List.flatMap_cons, List.flatMap_nil, List.append_nil]
theorem ptL_rev {y y' : List Nat} (h : bsOf y' = bsOf y) (L : Ords) (e : Nat) : ptL y' (L.map List.reverse) e = (ptL y L e).reverse := by
  have o : odL y' (L.map List.reverse) e = (odL y L e).reverse := by
    unfold odL
    rw [h, List.getElem?_map]
    cases L[(bsOf y).idxOf (PyProof.Rows.lo1 e)]? <;> rfl
  unfold ptL stL
  rw [o, <- List.map_reverse]
  split <;> rfl
theorem mtgs_rev {y : List Nat} {ws : List (List Nat)} {os os' : List Od} (e : os'.map prs = (os.map prs).map List.reverse) (hy : Yd y) (hw : WsOk y ws) (ho : OsOk y ws os) : mtgs y.reverse ws os' = mtgs y ws os := by
  refine mtgs_via rfl fun a ha b hb n => ?_
  have f := four_of hy hw ho ha hb n
  have nd := pts_nd hy ho
  have e2 : pts y.reverse os' = (pts y os).reverse := by
    rw [pts_L, pts_L, e]
    unfold ptsL
    rw [rev_flat]
    congr 1
    funext x
    exact ptL_rev (bsOf_same (List.reverse_perm y)) _ x
  rw [e2]
  exact cross_rev nd f
noncomputable def exch (b l : Nat) : Nat := if onB b l = true then ctr l else l
theorem onBc {b l : Nat} (hb : b ∈ smalls) (hl : Lt l) : onB b (ctr l) = onB b l := by
  rw [<- low_on hb hl, <- low_on hb hl.ctr]
  have e : PyProof.Rows.lo1 (ctr l) = PyProof.Rows.lo1 l := by
    rcases hl with g | g
    · rw [(low_of_cap _ (low_of_small l g).2.2).2.1, (low_of_small l g).2.1, ctr_ctr (.inl g)]
    · rw [(low_of_small _ (low_of_cap l g).2.2.2).2.1, (low_of_cap l g).2.1]
  rw [e]
theorem exch_exch {b l : Nat} (hb : b ∈ smalls) (hl : Lt l) : exch b (exch b l) = l := by
  unfold exch
  by_cases h : onB b l = true
  · rw [if_pos h, if_pos (by rw [onBc hb hl]; exact h), ctr_ctr hl]
  · rw [if_neg h, if_neg h]
theorem exch_ctr {b l : Nat} (hb : b ∈ smalls) (hl : Lt l) : exch b (ctr l) = ctr (exch b l) := by
  unfold exch
  rw [onBc hb hl]
  split <;> rfl
theorem exch_inj {b l m : Nat} (hb : b ∈ smalls) (hl : Lt l) (hm : Lt m) (e : exch b l = exch b m) : l = m := by rw [<- exch_exch hb hl, e, exch_exch hb hm]
theorem exch_in {y : List Nat} {b l : Nat} (hy : Yd y) (h : l ∈ y) : exch b l ∈ y := by unfold exch; split; exact hy.cl l h; exact h
theorem exch_perm {y : List Nat} {b : Nat} (hy : Yd y) (hb : b ∈ smalls) : (y.map (exch b)).Perm y := by
  refine (List.perm_ext_iff_of_nodup ?_ hy.nd).mpr fun c => ?_
  · show (List.map _ _).Pairwise (· ≠ ·)
    rw [List.pairwise_map]
    exact hy.nd.imp_of_mem fun {a c} ha hc g z => g (exch_inj hb (hy.lt a ha) (hy.lt c hc) z)
  · constructor
    · intro h
      obtain ⟨d, hd, rfl⟩ := List.mem_map.mp h
      exact exch_in hy hd
    · intro h
      exact List.mem_map.mpr ⟨exch b c, exch_in hy h, exch_exch hb (hy.lt c h)⟩
theorem WsOk.perm {y z : List Nat} {ws : List (List Nat)} (h : WsOk y ws) (p : z.Perm y) : WsOk z ws := ⟨h.few, fun w hw => ⟨fun c hc => p.mem_iff.mpr ((h.all w hw).1 c hc), (h.all w hw).2⟩⟩
theorem OsOk.perm {y z : List Nat} {ws : List (List Nat)} {os : List Od} (h : OsOk y ws os) (p : z.Perm y) : OsOk z ws os := by
  unfold OsOk
  rw [bsOf_same p]
  exact h
theorem exch_ltr {ws : List (List Nat)} {b : Nat} {a : Nat × Nat} (h : a ∈ cells ws) : ltr (ws.map fun w => w.map (exch b)) a = exch b (ltr ws a) := by
  obtain ⟨w, h1, h2, h3, _⟩ := ltr_at h
  have e : (ws.map fun w => w.map (exch b)).getD a.1 [] = w.map (exch b) := by rw [List.getD_eq_getElem?_getD, List.getElem?_map, h1]; rfl
  show ((ws.map fun w => w.map (exch b)).getD a.1 []).getD a.2 0 = _
  rw [e, List.getD_eq_getElem?_getD, List.getElem?_map, h3]
  rfl
theorem exch_cells (ws : List (List Nat)) (b : Nat) : cells (ws.map fun w => w.map (exch b)) = cells ws := by
  unfold cells
  rw [List.length_map]
  congr 1
  funext c
  have e : ((ws.map fun w => w.map (exch b)).getD c []).length = (ws.getD c []).length := by
    rw [List.getD_eq_getElem?_getD, List.getD_eq_getElem?_getD, List.getElem?_map]
    cases ws[c]? with
    | none => rfl
    | some w => exact List.length_map _
  rw [e]
theorem exch_prA (ws : List (List Nat)) (b : Nat) (a : Nat × Nat) : prA (ws.map fun w => w.map (exch b)) a = prA ws a := by
  have e : ((ws.map fun w => w.map (exch b)).getD a.1 []).length = (ws.getD a.1 []).length := by
    rw [List.getD_eq_getElem?_getD, List.getD_eq_getElem?_getD, List.getElem?_map]
    cases ws[a.1]? with
    | none => rfl
    | some w => exact List.length_map _
  unfold prA
  rw [e]
noncomputable def exP (b : Nat) (p : P3) : P3 := (p.1, p.2.1, exch b p.2.2)
theorem lo_ctr {l : Nat} (hl : Lt l) : PyProof.Rows.lo1 (ctr l) = PyProof.Rows.lo1 l := by
  rcases hl with g | g
  · rw [(low_of_cap _ (low_of_small l g).2.2).2.1, (low_of_small l g).2.1, ctr_ctr (.inl g)]
  · rw [(low_of_small _ (low_of_cap l g).2.2.2).2.1, (low_of_cap l g).2.1]
theorem up_ctr {l : Nat} (hl : Lt l) : isUp (ctr l) = !isUp l := by
  have e : ∀ c ∈ smalls ++ caps, isUp (ctr c) = !isUp c := by decide +kernel
  exact e l (by rcases hl with g | g; exact List.mem_append_left _ g; exact List.mem_append_right _ g)
noncomputable def revAt (L : Ords) (k : Nat) : Ords := L.take k ++ [(L.getD k []).reverse] ++ L.drop (k + 1)
theorem revAt_at {L : Ords} {k : Nat} (hk : k < L.length) (j : Nat) : (revAt L k)[j]? = if j = k then (L[k]?).map List.reverse else L[j]? := by
  unfold revAt
  have e : L.getD k [] = L[k] := by rw [List.getD_eq_getElem?_getD, List.getElem?_eq_getElem hk]; rfl
  rw [e, List.append_assoc]
  by_cases h : j = k
  · subst h
    rw [if_pos rfl, List.getElem?_append_right (by rw [List.length_take]; omega), List.length_take, Nat.min_eq_left (by omega), Nat.sub_self, List.getElem?_eq_getElem hk]
    rfl
  · rw [if_neg h]
    by_cases h2 : j < k
    · rw [List.getElem?_append_left (by rw [List.length_take]; omega), List.getElem?_take, if_pos h2]
    · rw [List.getElem?_append_right (by rw [List.length_take]; omega), List.length_take, Nat.min_eq_left (by omega)]
      obtain ⟨m, hm⟩ : ∃ m, j - k = m + 1 := ⟨j - k - 1, by omega⟩
      rw [hm]
      show (L.drop (k + 1))[m]? = _
      rw [List.getElem?_drop]
      congr 1
      omega
theorem idx_bs {y : List Nat} {k b : Nat} (hy : Yd y) (hb : (bsOf y)[k]? = some b) {e : Nat} (he : e ∈ y) : (bsOf y).idxOf (PyProof.Rows.lo1 e) = k ↔ PyProof.Rows.lo1 e = b := by
  have nd : (bsOf y).Nodup := (bsOf_perm y).nodup_iff.mpr (hy.nd.filter _)
  have hm := lo_in hy he
  have hi := List.idxOf_lt_length_of_mem hm
  constructor
  · intro h
    subst h
    rw [List.getElem?_eq_getElem hi, List.getElem_idxOf hi] at hb
    exact Option.some.inj hb
  · intro h
    subst h
    obtain ⟨h1, h2⟩ := List.getElem?_eq_some_iff.mp hb
    exact nd_ix nd hi h1 ((List.getElem_idxOf hi).trans h2.symm)
theorem bs_sm {y : List Nat} {k b : Nat} (hy : Yd y) (hb : (bsOf y)[k]? = some b) : b ∈ smalls := by
  have h := (bsOf_perm y).mem_iff.mp (List.mem_of_getElem? hb)
  obtain ⟨h1, h2⟩ := List.mem_filter.mp h
  rw [isLow_iff (hy.lt b h1)] at h2
  exact of_decide_eq_true h2
theorem ptL_exch {y : List Nat} {L : Ords} {k b e : Nat} (hy : Yd y) (hb : (bsOf y)[k]? = some b) (hk : k < L.length) (he : e ∈ y) : ptL y (revAt L k) (exch b e) = (ptL y L e).map (exP b) := by
  have hs := bs_sm hy hb
  have hl := hy.lt e he
  by_cases h : onB b e = true
  · have e1 : exch b e = ctr e := by unfold exch; rw [if_pos h]
    have lo : PyProof.Rows.lo1 e = b := by
      rw [<- low_on hs hl] at h
      exact of_decide_eq_true h
    have ix := (idx_bs hy hb he).mpr lo
    have o : odL y (revAt L k) (ctr e) = (odL y L e).reverse := by
      unfold odL
      rw [lo_ctr hl, ix, revAt_at hk, if_pos rfl]
      cases L[k]? <;> rfl
    have st : stL y (revAt L k) (ctr e) = stL y L e := by
      unfold stL
      rw [o, up_ctr hl]
      cases isUp e
      · exact List.reverse_reverse _
      · rfl
    unfold ptL
    rw [e1, st, List.map_map]
    refine List.map_congr_left fun q _ => ?_
    show (q.1, q.2, ctr e) = (q.1, q.2, exch b e)
    rw [e1]
  · have e1 : exch b e = e := by unfold exch; rw [if_neg h]
    have lo : PyProof.Rows.lo1 e ≠ b := fun z => h (by rw [<- low_on hs hl]; exact decide_eq_true z)
    have ix : (bsOf y).idxOf (PyProof.Rows.lo1 e) ≠ k := fun z => lo ((idx_bs hy hb he).mp z)
    have o : odL y (revAt L k) e = odL y L e := by
      unfold odL
      rw [revAt_at hk, if_neg ix]
    unfold ptL stL
    rw [e1, o, List.map_map]
    refine List.map_congr_left fun q _ => ?_
    show (q.1, q.2, e) = (q.1, q.2, exch b e)
    rw [e1]
theorem pts_lt {y : List Nat} {os : List Od} (hy : Yd y) {p : P3} (h : p ∈ pts y os) : Lt p.2.2 := by
  obtain ⟨e, he, hp⟩ := List.mem_flatMap.mp h
  obtain ⟨q, _, rfl⟩ := List.mem_map.mp hp
  exact hy.lt e he
theorem flat_congr {α : Type} {f g : Nat -> List α} : ∀ {l : List Nat}, (∀ x ∈ l, f x = g x) -> l.flatMap f = l.flatMap g
  | [], _ => rfl
  | a :: l, h => by rw [List.flatMap_cons, List.flatMap_cons, h a List.mem_cons_self, flat_congr fun x hx => h x (List.mem_cons_of_mem _ hx)]
theorem pts_exch {y : List Nat} {os os' : List Od} {k b : Nat} (e : os'.map prs = revAt (os.map prs) k) (hy : Yd y) (hb : (bsOf y)[k]? = some b) (hk : k < os.length) : pts (y.map (exch b)) os' = (pts y os).map (exP b) := by
  rw [pts_L, pts_L, e]
  unfold ptsL
  rw [List.flatMap_map, List.map_flatMap, ptL_congr (bsOf_same (exch_perm hy (bs_sm hy hb)))]
  exact flat_congr fun x hx => ptL_exch hy hb (by rw [List.length_map]; exact hk) hx
theorem mtgs_exch {y : List Nat} {ws : List (List Nat)} {os os' : List Od} {k b : Nat} (e : os'.map prs = revAt (os.map prs) k) (hy : Yd y) (hw : WsOk y ws) (ho : OsOk y ws os) (hb : (bsOf y)[k]? = some b) (hk : k < os.length) : mtgs (y.map (exch b)) (ws.map fun w => w.map (exch b)) os' = mtgs y ws os := by
  have hs := bs_sm hy hb
  refine mtgs_via (exch_cells ws b) fun a ha c hc n => ?_
  have f := four_of hy hw ho ha hc n
  have nd := pts_nd hy ho
  have q : ∀ a ∈ cells ws, cq (ws.map fun w => w.map (exch b)) a = exP b (cq ws a) := fun a ha => by
    show (a.1, a.2, ltr _ a) = (a.1, a.2, exch b (ltr ws a))
    rw [exch_ltr ha]
  have p : ∀ a ∈ cells ws, cp (ws.map fun w => w.map (exch b)) a = exP b (cp ws a) := fun a ha => by
    unfold cp
    rw [exch_prA, exch_ltr (prA_cells ha)]
    show (_, _, _) = ((prA ws a).1, (prA ws a).2, exch b (ctr (ltr ws (prA ws a))))
    rw [exch_ctr hs (hy.lt _ (ltr_in hw (prA_cells ha)))]
  rw [pts_exch e hy hb hk, q a ha, q c hc, p a ha, p c hc]
  refine cross_map ?_ f
  show (List.map _ _).Pairwise (· ≠ ·)
  rw [List.pairwise_map]
  refine nd.imp_of_mem fun {u v} hu hv g z => g ?_
  refine Prod.ext (show (exP b u).1 = (exP b v).1 by rw [z]) (Prod.ext (show (exP b u).2.1 = (exP b v).2.1 by rw [z]) ?_)
  exact exch_inj hs (pts_lt hy hu) (pts_lt hy hv) (show (exP b u).2.2 = (exP b v).2.2 by rw [z])
theorem onB_exch {b d l : Nat} (hd : d ∈ smalls) (hl : Lt l) : onB d (exch b l) = onB d l := by
  unfold exch
  split
  · exact onBc hd hl
  · rfl
theorem mem_strAll2 {b : Nat} {ws : List (List Nat)} {x : Nat × Nat} : x ∈ strAll b ws ws.length ↔ x ∈ cells ws /\ onB b (ltr ws x) = true := by
  constructor
  · intro h
    obtain ⟨c, hc, hx⟩ := List.mem_flatMap.mp h
    obtain ⟨i, hi, rfl⟩ := List.mem_map.mp hx
    obtain ⟨h1, h2⟩ := List.mem_filter.mp hi
    exact ⟨mem_cells.mpr ⟨List.mem_range.mp hc, List.mem_range.mp h1⟩, h2⟩
  · rintro ⟨h1, h2⟩
    have := mem_cells.mp h1
    exact mem_strAll this.1 this.2 h2
theorem strAll_exch {y : List Nat} {ws : List (List Nat)} {b d : Nat} (hy : Yd y) (hw : WsOk y ws) (hd : d ∈ smalls) : (strAll d ws ws.length).Perm (strAll d (ws.map fun w => w.map (exch b)) (ws.map fun w => w.map (exch b)).length) := by
  refine (List.perm_ext_iff_of_nodup (strAll_nd _ _ _) (strAll_nd _ _ _)).mpr fun x => ?_
  rw [mem_strAll2, mem_strAll2, exch_cells]
  refine and_congr_right fun hx => ?_
  rw [exch_ltr hx, onB_exch hd (hy.lt _ (ltr_in hw hx))]
theorem OsOk.exch {y : List Nat} {ws : List (List Nat)} {os os' : List Od} {k b : Nat} (e : os'.map prs = revAt (os.map prs) k) (hy : Yd y) (hw : WsOk y ws) (ho : OsOk y ws os) (hb : (bsOf y)[k]? = some b) (hk : k < os.length) : OsOk (y.map (My.exch b)) (ws.map fun w => w.map (My.exch b)) os' := by
  refine OsOk.perm ?_ (exch_perm hy (bs_sm hy hb))
  have hl := ho.lok
  refine LOk.os ?_
  rw [e]
  have hk' : k < (os.map prs).length := by rw [List.length_map]; exact hk
  refine ⟨?_, fun j l d hj hd => ?_⟩
  · rw [<- hl.1]
    unfold revAt
    rw [List.length_append, List.length_append, List.length_take, List.length_drop, List.length_singleton]
    omega
  · refine List.Perm.trans ?_ (strAll_exch hy hw (bs_sm hy hd))
    rw [revAt_at hk'] at hj
    by_cases z : j = k
    · subst z
      rw [if_pos rfl, List.getElem?_eq_getElem hk'] at hj
      cases hj
      exact (List.reverse_perm _).trans (hl.2 j _ d (List.getElem?_eq_getElem hk') hd)
    · rw [if_neg z] at hj
      exact hl.2 j l d hj hd
theorem WsOk.exch {y : List Nat} {ws : List (List Nat)} {b : Nat} (hy : Yd y) (hw : WsOk y ws) (hs : b ∈ smalls) : WsOk (y.map (My.exch b)) (ws.map fun w => w.map (My.exch b)) := by
  refine ⟨by rw [List.length_map]; exact hw.few, fun w h => ?_⟩
  obtain ⟨v, hv, rfl⟩ := List.mem_map.mp h
  refine ⟨fun c hc => ?_, by rw [List.length_map]; exact (hw.all v hv).2⟩
  obtain ⟨d, hd, rfl⟩ := List.mem_map.mp hc
  exact List.mem_map.mpr ⟨d, (hw.all v hv).1 d hd, rfl⟩
theorem OsOk.rev {y : List Nat} {ws : List (List Nat)} {os os' : List Od} (e : os'.map prs = (os.map prs).map List.reverse) (ho : OsOk y ws os) : OsOk y.reverse ws os' := by
  refine OsOk.perm ?_ (List.reverse_perm y)
  have hl := ho.lok
  refine LOk.os ?_
  rw [e]
  refine ⟨by rw [List.length_map]; exact hl.1, fun j l d hj hd => ?_⟩
  rw [List.getElem?_map] at hj
  cases g : (os.map prs)[j]? with
  | none => rw [g] at hj; cases hj
  | some m =>
    rw [g] at hj
    cases hj
    exact (List.reverse_perm _).trans (hl.2 j m d g hd)
noncomputable def rot1 (w : List Nat) : List Nat := w.drop 1 ++ w.take 1
noncomputable def phi (c n : Nat) (a : Nat × Nat) : Nat × Nat := (a.1, if a.1 = c then prd n a.2 else a.2)
theorem rot1_len (w : List Nat) : (rot1 w).length = w.length := by
  unfold rot1
  rw [List.length_append, List.length_drop, List.length_take]
  omega
theorem rot1_at {w : List Nat} {i : Nat} (h : i < w.length) : (rot1 w)[prd w.length i]? = w[i]? := by
  cases w with
  | nil => exact absurd h (Nat.not_lt_zero _)
  | cons a t =>
    show (t ++ [a])[prd (t.length + 1) i]? = _
    unfold prd
    cases i with
    | zero =>
      rw [if_pos rfl, Nat.add_sub_cancel, List.getElem?_append_right (Nat.le_refl _), Nat.sub_self]
      rfl
    | succ j =>
      rw [if_neg (Nat.succ_ne_zero _), Nat.add_sub_cancel]
      have : j < t.length := by
        have : j + 1 < t.length + 1 := h
        omega
      rw [List.getElem?_append_left this]
      rfl
theorem set_getD {ws : List (List Nat)} {c : Nat} {v : List Nat} (hc : c < ws.length) (d : Nat) : (ws.set c v).getD d [] = if d = c then v else ws.getD d [] := by
  rw [List.getD_eq_getElem?_getD, List.getD_eq_getElem?_getD, List.getElem?_set]
  by_cases h : d = c
  · subst h
    rw [if_pos rfl, if_pos rfl, if_pos hc]
    rfl
  · rw [if_neg (Ne.symm h), if_neg h]
theorem later_len {ws : List (List Nat)} {c : Nat} (hc : c < ws.length) (d : Nat) : ((ws.set c (rot1 (ws.getD c []))).getD d []).length = (ws.getD d []).length := by
  rw [set_getD hc]
  split
  · rename_i h
    rw [rot1_len, h]
  · rfl
theorem later_cells {ws : List (List Nat)} {c : Nat} (hc : c < ws.length) : cells (ws.set c (rot1 (ws.getD c []))) = cells ws := by
  unfold cells
  rw [List.length_set]
  congr 1
  funext d
  rw [later_len hc]
theorem phi_cells {ws : List (List Nat)} {c : Nat} {a : Nat × Nat} (h : a ∈ cells ws) : phi c (ws.getD c []).length a ∈ cells ws := by
  obtain ⟨h1, h2⟩ := mem_cells.mp h
  refine mem_cells.mpr ⟨h1, ?_⟩
  show (if a.1 = c then prd (ws.getD c []).length a.2 else a.2) < (ws.getD a.1 []).length
  split
  · rename_i z
    rw [z] at h2 ⊢
    exact prd_lt h2
  · exact h2
theorem phi_inj {ws : List (List Nat)} {c : Nat} {a b : Nat × Nat} (ha : a ∈ cells ws) (hb : b ∈ cells ws) (e : phi c (ws.getD c []).length a = phi c (ws.getD c []).length b) : a = b := by
  obtain ⟨_, h2⟩ := mem_cells.mp ha
  obtain ⟨_, h4⟩ := mem_cells.mp hb
  have e1 : a.1 = b.1 := (show (phi c (ws.getD c []).length a).1 = (phi c (ws.getD c []).length b).1 by rw [e])
  have e2 : (if a.1 = c then prd (ws.getD c []).length a.2 else a.2) = (if b.1 = c then prd (ws.getD c []).length b.2 else b.2) := (show (phi c (ws.getD c []).length a).2 = (phi c (ws.getD c []).length b).2 by rw [e])
  refine Prod.ext e1 ?_
  rw [<- e1] at e2 h4
  by_cases z : a.1 = c
  · rw [if_pos z, if_pos z] at e2
    rw [z] at h2 h4
    exact prd_inj h2 h4 e2
  · rw [if_neg z, if_neg z] at e2
    exact e2
noncomputable def nxt (n i : Nat) : Nat := if i + 1 = n then 0 else i + 1
theorem nxt_ok {n i : Nat} (h : i < n) : nxt n i < n /\ prd n (nxt n i) = i := by
  unfold nxt prd
  split
  · exact ⟨by omega, by rw [if_pos rfl]; omega⟩
  · exact ⟨by omega, by rw [if_neg (by omega)]; omega⟩
theorem phi_surj {ws : List (List Nat)} {c : Nat} {x : Nat × Nat} (h : x ∈ cells ws) : ∃ a ∈ cells ws, phi c (ws.getD c []).length a = x := by
  obtain ⟨h1, h2⟩ := mem_cells.mp h
  by_cases z : x.1 = c
  · rw [z] at h2
    obtain ⟨g1, g2⟩ := nxt_ok h2
    refine ⟨(x.1, nxt (ws.getD c []).length x.2), mem_cells.mpr ⟨h1, by show _ < (ws.getD x.1 []).length; rw [z]; exact g1⟩, ?_⟩
    show (x.1, if x.1 = c then prd (ws.getD c []).length (nxt (ws.getD c []).length x.2) else _) = x
    rw [if_pos z, g2]
  · exact ⟨x, h, by show (x.1, if x.1 = c then _ else x.2) = x; rw [if_neg z]⟩
theorem later_ltr {ws : List (List Nat)} {c : Nat} {a : Nat × Nat} (hc : c < ws.length) (h : a ∈ cells ws) : ltr (ws.set c (rot1 (ws.getD c []))) (phi c (ws.getD c []).length a) = ltr ws a := by
  obtain ⟨h1, h2⟩ := mem_cells.mp h
  show ((ws.set c (rot1 (ws.getD c []))).getD a.1 []).getD (if a.1 = c then prd (ws.getD c []).length a.2 else a.2) 0 = (ws.getD a.1 []).getD a.2 0
  rw [set_getD hc]
  by_cases z : a.1 = c
  · rw [if_pos z, if_pos z]
    rw [z] at h2
    rw [z, List.getD_eq_getElem?_getD, rot1_at h2, <- List.getD_eq_getElem?_getD]
  · rw [if_neg z, if_neg z]
theorem later_prA {ws : List (List Nat)} {c : Nat} {a : Nat × Nat} (hc : c < ws.length) (h : a ∈ cells ws) : prA (ws.set c (rot1 (ws.getD c []))) (phi c (ws.getD c []).length a) = phi c (ws.getD c []).length (prA ws a) := by
  show (a.1, prd ((ws.set c (rot1 (ws.getD c []))).getD a.1 []).length (if a.1 = c then prd (ws.getD c []).length a.2 else a.2)) = (a.1, if a.1 = c then prd (ws.getD c []).length (prd (ws.getD a.1 []).length a.2) else prd (ws.getD a.1 []).length a.2)
  rw [later_len hc]
  by_cases z : a.1 = c
  · rw [if_pos z, if_pos z, z]
  · rw [if_neg z, if_neg z]
noncomputable def phP (c n : Nat) (p : P3) : P3 := ((phi c n (p.1, p.2.1)).1, (phi c n (p.1, p.2.1)).2, p.2.2)
theorem pts_later {y : List Nat} {os os' : List Od} {c n : Nat} (e : os'.map prs = (os.map prs).map fun l => l.map (phi c n)) : pts y os' = (pts y os).map (phP c n) := by
  rw [pts_L, pts_L, e]
  unfold ptsL
  rw [List.map_flatMap]
  congr 1
  funext x
  have o : odL y ((os.map prs).map fun l => l.map (phi c n)) x = (odL y (os.map prs) x).map (phi c n) := by
    unfold odL
    rw [List.getElem?_map]
    cases (os.map prs)[(bsOf y).idxOf (PyProof.Rows.lo1 x)]? <;> rfl
  have st : stL y ((os.map prs).map fun l => l.map (phi c n)) x = (stL y (os.map prs) x).map (phi c n) := by
    unfold stL
    rw [o, <- List.map_reverse]
    split <;> rfl
  unfold ptL
  rw [st, List.map_map, List.map_map]
  rfl
theorem pts_cell {y : List Nat} {ws : List (List Nat)} {os : List Od} (hy : Yd y) (ho : OsOk y ws os) {p : P3} (h : p ∈ pts y os) : (p.1, p.2.1) ∈ cells ws /\ onB (PyProof.Rows.lo1 p.2.2) (ltr ws (p.1, p.2.1)) = true /\ p.2.2 ∈ y := by
  obtain ⟨e, he, hp⟩ := List.mem_flatMap.mp h
  obtain ⟨q, hq, rfl⟩ := List.mem_map.mp hp
  have := (ho.at hy he).mem_iff.mp (List.mem_map.mpr ⟨q, hq, rfl⟩)
  obtain ⟨h1, h2⟩ := mem_strAll2.mp this
  exact ⟨h1, h2, he⟩
theorem cross_later {y : List Nat} {ws : List (List Nat)} {os os' : List Od} {c : Nat} (hc : c < ws.length) (e : os'.map prs = (os.map prs).map fun l => l.map (phi c (ws.getD c []).length)) (hy : Yd y) (hw : WsOk y ws) (ho : OsOk y ws os) {a b : Nat × Nat} (ha : a ∈ cells ws) (hb : b ∈ cells ws) (n : a ≠ b) :
    meets (cnr (pts y os') (ws.set c (rot1 (ws.getD c []))) (phi c (ws.getD c []).length a)) (cnr (pts y os') (ws.set c (rot1 (ws.getD c []))) (phi c (ws.getD c []).length b)) = meets (cnr (pts y os) ws a) (cnr (pts y os) ws b) := by
  rw [cnr_cross, cnr_cross]
  have f := four_of hy hw ho ha hb n
  have nd := pts_nd hy ho
  have q : ∀ a ∈ cells ws, cq (ws.set c (rot1 (ws.getD c []))) (phi c (ws.getD c []).length a) = phP c (ws.getD c []).length (cq ws a) := fun a ha => by
    show (_, _, ltr _ _) = (_, _, ltr ws a)
    rw [later_ltr hc ha]
    rfl
  have p : ∀ a ∈ cells ws, cp (ws.set c (rot1 (ws.getD c []))) (phi c (ws.getD c []).length a) = phP c (ws.getD c []).length (cp ws a) := fun a ha => by
    unfold cp
    rw [later_prA hc ha, later_ltr hc (prA_cells ha)]
    rfl
  rw [pts_later e, q a ha, q b hb, p a ha, p b hb]
  refine cross_map ?_ f
  show (List.map _ _).Pairwise (· ≠ ·)
  rw [List.pairwise_map]
  refine nd.imp_of_mem fun {u v} hu hv g z => g ?_
  have z1 : phi c (ws.getD c []).length (u.1, u.2.1) = phi c (ws.getD c []).length (v.1, v.2.1) := Prod.ext (show (phP c (ws.getD c []).length u).1 = (phP c (ws.getD c []).length v).1 by rw [z]) (show (phP c (ws.getD c []).length u).2.1 = (phP c (ws.getD c []).length v).2.1 by rw [z])
  have z2 := phi_inj (pts_cell hy ho hu).1 (pts_cell hy ho hv).1 z1
  exact Prod.ext (show (u.1, u.2.1).1 = (v.1, v.2.1).1 by rw [z2]) (Prod.ext (show (u.1, u.2.1).2 = (v.1, v.2.1).2 by rw [z2]) (show (phP c (ws.getD c []).length u).2.2 = (phP c (ws.getD c []).length v).2.2 by rw [z]))
theorem strAll_later {ws : List (List Nat)} {c d : Nat} (hc : c < ws.length) : ((strAll d ws ws.length).map (phi c (ws.getD c []).length)).Perm (strAll d (ws.set c (rot1 (ws.getD c []))) (ws.set c (rot1 (ws.getD c []))).length) := by
  refine (List.perm_ext_iff_of_nodup ?_ (strAll_nd _ _ _)).mpr fun x => ?_
  · show (List.map _ _).Pairwise (· ≠ ·)
    rw [List.pairwise_map]
    exact (strAll_nd d ws ws.length).imp_of_mem fun {a b} ha hb g z => g (phi_inj (mem_strAll2.mp ha).1 (mem_strAll2.mp hb).1 z)
  · rw [mem_strAll2, later_cells hc]
    constructor
    · intro h
      obtain ⟨a, ha, rfl⟩ := List.mem_map.mp h
      obtain ⟨h1, h2⟩ := mem_strAll2.mp ha
      exact ⟨phi_cells h1, by rw [later_ltr hc h1]; exact h2⟩
    · rintro ⟨h1, h2⟩
      obtain ⟨a, ha, rfl⟩ := phi_surj (c := c) h1
      rw [later_ltr hc ha] at h2
      exact List.mem_map.mpr ⟨a, mem_strAll2.mpr ⟨ha, h2⟩, rfl⟩
theorem OsOk.later {y : List Nat} {ws : List (List Nat)} {os os' : List Od} {c : Nat} (hc : c < ws.length) (e : os'.map prs = (os.map prs).map fun l => l.map (phi c (ws.getD c []).length)) (ho : OsOk y ws os) : OsOk y (ws.set c (rot1 (ws.getD c []))) os' := by
  have hl := ho.lok
  refine LOk.os ?_
  rw [e]
  refine ⟨by rw [List.length_map]; exact hl.1, fun j l d hj hd => ?_⟩
  rw [List.getElem?_map] at hj
  cases g : (os.map prs)[j]? with
  | none => rw [g] at hj; cases hj
  | some m =>
    rw [g] at hj
    cases hj
    exact ((hl.2 j m d g hd).map _).trans (strAll_later hc)
theorem WsOk.later {y : List Nat} {ws : List (List Nat)} {c : Nat} (hc : c < ws.length) (hw : WsOk y ws) : WsOk y (ws.set c (rot1 (ws.getD c []))) := by
  refine ⟨by rw [List.length_set]; exact hw.few, fun w h => ?_⟩
  rcases List.mem_or_eq_of_mem_set h with g | g
  · exact hw.all w g
  · have e : ws.getD c [] = ws[c] := by rw [List.getD_eq_getElem?_getD, List.getElem?_eq_getElem hc]; rfl
    have := hw.all _ (List.getElem_mem hc)
    rw [<- e] at this
    subst g
    refine ⟨fun x hx => this.1 x ?_, by rw [rot1_len]; exact this.2⟩
    unfold rot1 at hx
    rcases List.mem_append.mp hx with z | z
    · exact List.mem_of_mem_drop z
    · exact List.mem_of_mem_take z
noncomputable def both (u v : Nat × Nat) : C4 := if lt2p u v then (u.1, u.2, v.1, v.2) else (v.1, v.2, u.1, u.2)
noncomputable def renum (c n : Nat) (z : C4) : C4 := both (phi c n (z.1, z.2.1)) (phi c n (z.2.2.1, z.2.2.2))
theorem both_cases {u v u' v' : Nat × Nat} (e : both u v = both u' v') : (u = u' /\ v = v') \/ (u = v' /\ v = u') := by
  have k : ∀ {a b c d : Nat × Nat}, ((a.1, a.2, b.1, b.2) : C4) = (c.1, c.2, d.1, d.2) -> a = c /\ b = d := fun {a b c d} e => ⟨Prod.ext (congrArg (fun q : C4 => q.1) e) (congrArg (fun q : C4 => q.2.1) e), congrArg (fun q : C4 => q.2.2) e⟩
  unfold both at e
  split at e <;> split at e
  · exact .inl (k e)
  · exact .inr ⟨(k e).1, (k e).2⟩
  · exact .inr ⟨(k e).2, (k e).1⟩
  · exact .inl ⟨(k e).2, (k e).1⟩
theorem both_lt {u v : Nat × Nat} (h : lt2p u v) : both u v = (u.1, u.2, v.1, v.2) /\ both v u = (u.1, u.2, v.1, v.2) := by
  unfold both
  rw [if_pos h, if_neg (lt2p_asym h)]
  exact ⟨rfl, rfl⟩
section
variable {y : List Nat} {ws : List (List Nat)} {os os' : List Od} {c : Nat}
theorem mtgs_at {z : C4} (h : z ∈ mtgs y ws os) : (z.1, z.2.1) ∈ cells ws /\ (z.2.2.1, z.2.2.2) ∈ cells ws /\ lt2p (z.1, z.2.1) (z.2.2.1, z.2.2.2) /\ meets (cnr (pts y os) ws (z.1, z.2.1)) (cnr (pts y os) ws (z.2.2.1, z.2.2.2)) = true := by
  rw [mtgs_cells] at h
  exact (mtL_mem (a := (z.1, z.2.1)) (b := (z.2.2.1, z.2.2.2)) (cells_rise ws)).mp h
theorem renum_nd : ((mtgs y ws os).map (renum c (ws.getD c []).length)).Nodup := by
  show (List.map _ _).Pairwise (· ≠ ·)
  rw [List.pairwise_map]
  have nd : (mtgs y ws os).Nodup := by rw [mtgs_cells]; exact mtL_nd (cells_nd ws)
  refine nd.imp_of_mem fun {u v} hu hv g z => g ?_
  obtain ⟨u1, u2, u3, _⟩ := mtgs_at hu
  obtain ⟨v1, v2, v3, _⟩ := mtgs_at hv
  have fin : (u.1, u.2.1) = (v.1, v.2.1) -> (u.2.2.1, u.2.2.2) = (v.2.2.1, v.2.2.2) -> u = v := fun a b => Prod.ext (show (u.1, u.2.1).1 = (v.1, v.2.1).1 by rw [a]) (Prod.ext (show (u.1, u.2.1).2 = (v.1, v.2.1).2 by rw [a]) b)
  rcases both_cases z with ⟨a, b⟩ | ⟨a, b⟩
  · exact fin (phi_inj u1 v1 a) (phi_inj u2 v2 b)
  · have a' := phi_inj u1 v2 a
    have b' := phi_inj u2 v1 b
    rw [a', b'] at u3
    exact absurd v3 (lt2p_asym u3)
theorem mtgs_later (hc : c < ws.length) (e : os'.map prs = (os.map prs).map fun l => l.map (phi c (ws.getD c []).length)) (hy : Yd y) (hw : WsOk y ws) (ho : OsOk y ws os) : ((mtgs y ws os).map (renum c (ws.getD c []).length)).Perm (mtgs y (ws.set c (rot1 (ws.getD c []))) os') := by
  have nd : (mtgs y (ws.set c (rot1 (ws.getD c []))) os').Nodup := by rw [mtgs_cells]; exact mtL_nd (cells_nd _)
  refine (List.perm_ext_iff_of_nodup renum_nd nd).mpr fun x => ?_
  have sym : ∀ {a b : Nat × Nat}, a ∈ cells ws -> b ∈ cells ws -> a ≠ b -> meets (cnr (pts y os) ws b) (cnr (pts y os) ws a) = meets (cnr (pts y os) ws a) (cnr (pts y os) ws b) := fun ha hb n => cross_sym (four_of hy hw ho ha hb n)
  have im : ∀ {a b : Nat × Nat}, a ∈ cells ws -> b ∈ cells ws -> lt2p (phi c (ws.getD c []).length a) (phi c (ws.getD c []).length b) -> a ≠ b -> meets (cnr (pts y os) ws a) (cnr (pts y os) ws b) = true -> ((phi c (ws.getD c []).length a).1, (phi c (ws.getD c []).length a).2, (phi c (ws.getD c []).length b).1, (phi c (ws.getD c []).length b).2) ∈ mtgs y (ws.set c (rot1 (ws.getD c []))) os' := fun {a b} ha hb hl n hm => by
    rw [mtgs_cells, later_cells hc]
    refine (mtL_mem (cells_rise ws)).mpr ⟨phi_cells ha, phi_cells hb, hl, ?_⟩
    rw [cross_later hc e hy hw ho ha hb n]
    exact hm
  constructor
  · intro h
    obtain ⟨z, hz, rfl⟩ := List.mem_map.mp h
    obtain ⟨z1, z2, z3, z4⟩ := mtgs_at hz
    have n := lt2p_ne z3
    have n2 : phi c (ws.getD c []).length (z.1, z.2.1) ≠ phi c (ws.getD c []).length (z.2.2.1, z.2.2.2) := fun q => n (phi_inj z1 z2 q)
    rcases lt2p_or n2 with g | g
    · unfold renum
      rw [(both_lt g).1]
      exact im z1 z2 g n z4
    · unfold renum
      rw [(both_lt g).2]
      exact im z2 z1 g (Ne.symm n) (by rw [sym z1 z2 n]; exact z4)
  · intro h
    obtain ⟨h1, h2, h3, h4⟩ := mtgs_at h
    rw [later_cells hc] at h1 h2
    obtain ⟨a, ha, ea⟩ := phi_surj (c := c) h1
    obtain ⟨b, hb, eb⟩ := phi_surj (c := c) h2
    rw [<- ea, <- eb] at h3 h4
    have n : a ≠ b := fun q => lt2p_ne h3 (by rw [q])
    rw [cross_later hc e hy hw ho ha hb n] at h4
    have ex : both (phi c (ws.getD c []).length a) (phi c (ws.getD c []).length b) = x := by
      rw [(both_lt h3).1, ea, eb]
    have ex2 : both (phi c (ws.getD c []).length b) (phi c (ws.getD c []).length a) = x := by
      rw [(both_lt h3).2, ea, eb]
    rcases lt2p_or n with g | g
    · refine List.mem_map.mpr ⟨(a.1, a.2, b.1, b.2), ?_, ex⟩
      rw [mtgs_cells]
      exact (mtL_mem (cells_rise ws)).mpr ⟨ha, hb, g, h4⟩
    · refine List.mem_map.mpr ⟨(b.1, b.2, a.1, a.2), ?_, ex2⟩
      rw [mtgs_cells]
      exact (mtL_mem (cells_rise ws)).mpr ⟨hb, ha, g, by rw [sym ha hb n]; exact h4⟩
end
theorem range_getD (ws : List (List Nat)) : (List.range ws.length).map (fun c => ws.getD c []) = ws := by
  refine List.ext_getElem? fun i => ?_
  rw [List.getElem?_map]
  by_cases h : i < ws.length
  · rw [List.getElem?_range h, List.getElem?_eq_getElem h]
    show some (ws.getD i []) = _
    rw [List.getD_eq_getElem?_getD, List.getElem?_eq_getElem h]
    rfl
  · rw [List.getElem?_eq_none (by rw [List.length_range]; omega), List.getElem?_eq_none (by omega)]
    rfl
theorem cells_len (ws : List (List Nat)) : (cells ws).length = ws.flatten.length := by
  unfold cells
  rw [List.length_flatMap, List.length_flatten]
  have e : (List.range ws.length).map (fun c => ((List.range (ws.getD c []).length).map fun i => (c, i)).length) = ((List.range ws.length).map fun c => ws.getD c []).map List.length := by
    rw [List.map_map]
    refine List.map_congr_left fun c _ => ?_
    show (List.map _ _).length = (ws.getD c []).length
    rw [List.length_map, List.length_range]
  rw [e, range_getD]
noncomputable def cq2 (ws : List (List Nat)) (a : Nat × Nat) : P3 := (a.1, a.2, ctr (ltr ws a))
theorem pts_len2 {y : List Nat} {ws : List (List Nat)} {os : List Od} (hy : Yd y) (hw : WsOk y ws) (ho : OsOk y ws os) : (pts y os).length = 2 * ws.flatten.length := by
  have nd : ((cells ws).map (cq ws) ++ (cells ws).map (cq2 ws)).Nodup := by
    rw [List.nodup_append]
    refine ⟨?_, ?_, fun x hx z hz e => ?_⟩
    · show (List.map _ _).Pairwise (· ≠ ·)
      rw [List.pairwise_map]
      exact (cells_nd ws).imp fun {u v} g z => g (Prod.ext (show (cq ws u).1 = (cq ws v).1 by rw [z]) (show (cq ws u).2.1 = (cq ws v).2.1 by rw [z]))
    · show (List.map _ _).Pairwise (· ≠ ·)
      rw [List.pairwise_map]
      exact (cells_nd ws).imp fun {u v} g z => g (Prod.ext (show (cq2 ws u).1 = (cq2 ws v).1 by rw [z]) (show (cq2 ws u).2.1 = (cq2 ws v).2.1 by rw [z]))
    · subst e
      obtain ⟨u, hu, rfl⟩ := List.mem_map.mp hx
      obtain ⟨v, hv, e⟩ := List.mem_map.mp hz
      have e1 : v = u := Prod.ext (show (cq2 ws v).1 = (cq ws u).1 by rw [e]) (show (cq2 ws v).2.1 = (cq ws u).2.1 by rw [e])
      subst e1
      exact ctr_ne (hy.lt _ (ltr_in hw hv)) (show (cq2 ws v).2.2 = (cq ws v).2.2 by rw [e])
  have pm : (pts y os).Perm ((cells ws).map (cq ws) ++ (cells ws).map (cq2 ws)) := by
    refine (List.perm_ext_iff_of_nodup (pts_nd hy ho) nd).mpr fun p => ?_
    rw [List.mem_append]
    constructor
    · intro h
      obtain ⟨h1, h2, h3⟩ := pts_cell hy ho h
      have hl := hy.lt _ h3
      have hx := hy.lt _ (ltr_in hw h1)
      have k : ltr ws (p.1, p.2.1) = p.2.2 \/ ltr ws (p.1, p.2.1) = ctr p.2.2 := by
        unfold onB at h2
        rw [Bool.or_eq_true, decide_eq_true_iff, decide_eq_true_iff] at h2
        rcases hl with g | g
        · rw [(low_of_small _ g).2.1] at h2
          exact h2
        · rw [(low_of_cap _ g).2.1, ctr_ctr (.inr g)] at h2
          exact h2.symm
      rcases k with k | k
      · exact .inl (List.mem_map.mpr ⟨(p.1, p.2.1), h1, by show (p.1, p.2.1, ltr ws (p.1, p.2.1)) = p; rw [k]⟩)
      · exact .inr (List.mem_map.mpr ⟨(p.1, p.2.1), h1, by show (p.1, p.2.1, ctr (ltr ws (p.1, p.2.1))) = p; rw [k, ctr_ctr hl]⟩)
    · rintro (h | h)
      · obtain ⟨a, ha, rfl⟩ := List.mem_map.mp h
        exact cq_in hy hw ho ha
      · obtain ⟨a, ha, rfl⟩ := List.mem_map.mp h
        obtain ⟨w, h1, _, h3, h4⟩ := ltr_at ha
        exact pt_in hy ho h1 h3 (ltr_in hw ha) (.inr rfl)
  rw [pm.length_eq, List.length_append, List.length_map, List.length_map, cells_len]
  omega
noncomputable def sp_Lexchanged (_ : PySem.W.Frag) : Sp := fun vs H Q _ => ∃ (l : List Nat) (b : Nat), vs = [.str (S l), .str (S [b])] /\ (∀ c ∈ l, Lt c) /\ l.length <= 1000 /\ Lt b /\ ∀ H', Same H H' -> Q (.str (S (l.map (exch b)))) H'
theorem len_Lexchanged {K : PySem.W.Frag} {vs : List V} {H : Hp} {Q : VK} {E : XK} (h : sp_Lexchanged K vs H Q E) : vs.length = 2 := by obtain ⟨c, _, rfl, _⟩ := h; rfl
noncomputable def sp_Llater (_ : PySem.W.Frag) : Sp := fun vs H Q _ => ∃ (dr : Addr) (c : Nat) (ws : List (List Nat)) (os : List Od), vs = [.ref dr, .int c] /\ DrAt H dr ws os /\ c < ws.length /\ ws.length <= 4 /\ (∀ w ∈ ws, w.length <= 12) /\ os.length <= 100 /\ (∀ o ∈ os, ∀ p ∈ o.ps, p.pair ∈ cells ws) /\
  ∀ (d : Addr) (os' : List Od) (H' : Hp), DrAt H' d (ws.set c (rot1 (ws.getD c []))) os' -> os'.map prs = ((os.map prs).map fun l => l.map (phi c (ws.getD c []).length)) -> Same H H' -> Q (.ref d) H'
theorem len_Llater {K : PySem.W.Frag} {vs : List V} {H : Hp} {Q : VK} {E : XK} (h : sp_Llater K vs H Q E) : vs.length = 2 := by obtain ⟨c, _, _, _, rfl, _⟩ := h; rfl
noncomputable def sp_Lrenumbered (_ : PySem.W.Frag) : Sp := fun vs H Q _ => ∃ (t : Addr) (c n : Nat) (qs : List Q4), vs = [.ref t, .int c, .int n] /\ H t = some (.lst (q4v qs)) /\ (∀ x ∈ qs, Q4Ok H x) /\ qs.length <= 4000 /\ c < 16 /\ n < 16 /\
  (∀ x ∈ qs, (x.v.1 < 16 /\ x.v.2.1 < 16 /\ x.v.2.2.1 < 16 /\ x.v.2.2.2 < 16) /\ (x.v.1 = c -> x.v.2.1 < n) /\ (x.v.2.2.1 = c -> x.v.2.2.2 < n) /\ phi c n (x.v.1, x.v.2.1) ≠ phi c n (x.v.2.2.1, x.v.2.2.2)) /\ ((qs.map Q4.v).map (renum c n)).Nodup /\
  ∀ (q : Addr) (qs' : List Q4) (H' : Hp), H' q = some (.lst (q4v qs')) -> (∀ x ∈ qs', Q4Ok H' x) -> (qs'.map Q4.v).Perm ((qs.map Q4.v).map (renum c n)) -> ((qs'.map Q4.v).Pairwise fun a b => lexI (r4 b) (r4 a) = false) -> Same H H' -> Q (.ref q) H'
theorem len_Lrenumbered {K : PySem.W.Frag} {vs : List V} {H : Hp} {Q : VK} {E : XK} (h : sp_Lrenumbered K vs H Q E) : vs.length = 3 := by obtain ⟨c, _, _, _, rfl, _⟩ := h; rfl
theorem later_int {n i : Nat} (h : i < n) : ((i : Int) + (n : Int) - 1) % (if (n : Int) > 1 then (n : Int) else 1) = ((prd n i : Nat) : Int) := by
  have e : (if (n : Int) > 1 then (n : Int) else 1) = (n : Int) := by split <;> omega
  rw [e, <- prd_int h, show (i : Int) + (n : Int) - 1 = (i : Int) - 1 + (n : Int) by omega, Int.add_emod_right]
theorem pick_phi {c n d i : Nat} (h : d = c -> i < n) : atI [V.int (i : Int), V.int (((i : Int) + (n : Int) - 1) % (if (n : Int) > 1 then (n : Int) else 1))] (if decide ((d : Int) = (c : Int)) = true then 1 else 0) = some (V.int (((phi c n (d, i)).2 : Nat) : Int)) := by
  by_cases z : d = c
  · rw [if_pos (decide_eq_true (by omega)), later_int (h z)]
    show some _ = some (V.int ((if d = c then prd n i else i : Nat) : Int))
    rw [if_pos z]
  · have e : ¬ (decide ((d : Int) = (c : Int)) = true) := by rw [decide_eq_true_iff]; omega
    rw [if_neg e]
    show some _ = some (V.int ((if d = c then prd n i else i : Nat) : Int))
    rw [if_neg z]
theorem phi_small {c n d i m : Nat} (h : d = c -> i < n) (hn : n <= m) (hi : i < m) : (phi c n (d, i)).2 < m := by
  show (if d = c then prd n i else i) < m
  split
  · rename_i z
    exact Nat.lt_of_lt_of_le (prd_lt (h z)) hn
  · exact hi
theorem txs_at2 {ws : List (List Nat)} {i : Nat} {w : List Nat} (h : ws[i]? = some w) : (txs ws)[i]? = some (V.str (S w)) := by unfold txs; rw [List.getElem?_map, h]; rfl
theorem r4_inj {a b : C4} (h : r4 a = r4 b) : a = b := by
  unfold r4 at h
  injection h with h1 h
  injection h with h2 h
  injection h with h3 h
  injection h with h4 _
  exact Prod.ext (by omega) (Prod.ext (by omega) (Prod.ext (by omega) (by omega)))
theorem two_rise {u v : Nat × Nat} (h : lt2p u v) : [u, v].Pairwise fun x y => pairLt (pz y) (pz x) = false := by
  refine List.pairwise_cons.mpr ⟨fun x hx => ?_, List.pairwise_singleton _ _⟩
  rw [List.mem_singleton.mp hx]
  unfold lt2p at h
  unfold pairLt pz
  simp only [Bool.or_eq_false_iff, Bool.and_eq_false_iff, decide_eq_false_iff_not]
  omega
theorem both_pick {L : List Pr} {u v : Nat × Nat} (h : (L.map Pr.pair).Perm [u, v]) (hr : (L.map Pr.pair).Pairwise fun x y => pairLt (pz y) (pz x) = false) (n : u ≠ v) : ∃ P1 P2 : Pr, L = [P1, P2] /\ (P1.c, P1.i, P2.c, P2.i) = both u v := by
  have k : ∀ {a b : Nat × Nat}, L.map Pr.pair = [a, b] -> ∃ P1 P2 : Pr, L = [P1, P2] /\ (P1.c, P1.i, P2.c, P2.i) = ((a.1, a.2, b.1, b.2) : C4) := fun {a b} e => by
    match L, e with
    | [P1, P2], e =>
      injection e with e1 e
      injection e with e2 _
      subst e1 e2
      exact ⟨P1, P2, rfl, rfl⟩
  rcases lt2p_or n with g | g
  · rw [(both_lt g).1]
    exact k (rise_eq h hr (two_rise g))
  · rw [(both_lt g).2]
    exact k (rise_eq (h.trans (List.Perm.swap _ _ _)) hr (two_rise g))
theorem cut_txs2 (l : List (List Nat)) (lo hi : Option Int) : cutV (txs l) lo hi = txs (cut l lo hi) := by unfold txs cutV cut; rw [List.length_map, <- List.map_drop, <- List.map_take]
theorem txs_put {ws : List (List Nat)} {c : Nat} {w : List Nat} (hc : c < ws.length) : cutV (txs ws) none (some (c : Int)) ++ [V.str (S w)] ++ cutV (txs ws) (some ((c : Int) + 1)) none = txs (ws.set c w) := by
  have e : cut ws (some ((c : Int) + 1)) none = ws.drop (c + 1) := cut_from ws (c + 1)
  rw [cut_txs2, cut_txs2, cut_to, e, List.set_eq_take_append_cons_drop, if_pos hc]
  unfold txs
  rw [List.map_append, List.map_cons, List.append_assoc]
  rfl
theorem rot1_cut (w : List Nat) : cut w (some 1) none ++ cut w none (some 1) = rot1 w := by rw [cut_one, cut_one']; rfl
theorem dict_qs : ∀ ns : List C4, PyData.hasDictAll (ns.map qD) = false
  | [] => rfl
  | x :: ns => by show (PyData.hasDict (qD x) || PyData.hasDictAll (ns.map qD)) = false; rw [dict_qs ns]; rfl
theorem cut_odv (l : List Od) (lo hi : Option Int) : cutV (odv l) lo hi = odv (cut l lo hi) := by unfold odv cutV cut; rw [List.length_map, <- List.map_drop, <- List.map_take]
theorem odv_put (os : List Od) (k : Nat) (o : Od) : cutV (odv os) none (some (k : Int)) ++ [V.ref o.o] ++ cutV (odv os) (some ((k : Int) + 1)) none = odv (os.take k ++ [o] ++ os.drop (k + 1)) := by
  have e : cut os (some ((k : Int) + 1)) none = os.drop (k + 1) := cut_from os (k + 1)
  rw [cut_odv, cut_odv, cut_to, e]
  unfold odv
  rw [List.map_append, List.map_append]
  rfl
theorem prs_put {os : List Od} {k : Nat} {o o' : Od} (h : os[k]? = some o) (e : o'.ps = o.ps.reverse) : (os.take k ++ [o'] ++ os.drop (k + 1)).map prs = revAt (os.map prs) k := by
  unfold revAt
  rw [List.map_append, List.map_append, List.map_take, List.map_drop]
  have e2 : (os.map prs).getD k [] = prs o := by rw [List.getD_eq_getElem?_getD, List.getElem?_map, h]; rfl
  rw [e2]
  congr 2
  show [o'.ps.map Pr.pair] = [(o.ps.map Pr.pair).reverse]
  rw [e, List.map_reverse]
theorem sum_le12 : ∀ {ws : List (List Nat)}, (∀ w ∈ ws, w.length <= 12) -> (ws.map List.length).sum <= 12 * ws.length
  | [], _ => Nat.le_refl _
  | w :: ws, h => by
    have h1 := h w List.mem_cons_self
    have h2 := sum_le12 fun v hv => h v (List.mem_cons_of_mem _ hv)
    rw [List.map_cons, List.sum_cons, List.length_cons]
    omega
theorem sgs_at2 {l : List Nat} {i c : Nat} (h : l[i]? = some c) : (sgs l)[i]? = some (V.str (S [c])) := by
  rw [sgs_ones]
  exact txs_at2 (by unfold ones; rw [List.getElem?_map, h]; rfl)
theorem OsOk.cells {y : List Nat} {ws : List (List Nat)} {os : List Od} (h : OsOk y ws os) : ∀ o ∈ os, ∀ p ∈ o.ps, p.pair ∈ My.cells ws := fun o ho p hp => by
  obtain ⟨j, hj, e⟩ := List.mem_iff_getElem.mp ho
  have hb : j < (bsOf y).length := by rw [<- h.1]; exact hj
  have := h.2 j o _ (by rw [List.getElem?_eq_getElem hj, e]) (List.getElem?_eq_getElem hb)
  exact (mem_strAll2.mp (this.mem_iff.mp (List.mem_map.mpr ⟨p, hp, rfl⟩))).1
noncomputable def top (i : Nat) : Stmt := PySem.Challenge.pw_mustmeet_k19_whole_drawings_told_otherwi.main.body.getD i (.Pass ⟨0, 0, 0, 0⟩)
noncomputable abbrev s_contrary : Stmt := top 1
noncomputable abbrev s_foreign_sign : Stmt := top 6
noncomputable abbrev s_bands : Stmt := top 7
noncomputable abbrev s_strands_at : Stmt := top 9
noncomputable abbrev s_points : Stmt := top 10
noncomputable abbrev s_corner_points : Stmt := top 11
noncomputable abbrev s_corners : Stmt := top 12
noncomputable abbrev s_corners_meet : Stmt := top 13
noncomputable abbrev s_meetings : Stmt := top 14
noncomputable abbrev s_strands_in : Stmt := top 16
noncomputable abbrev s_look_words : Stmt := top 17
noncomputable abbrev s_look_orders : Stmt := top 18
noncomputable abbrev s_look_drawing : Stmt := top 19
noncomputable abbrev s_Lbox : Stmt := top 21
noncomputable abbrev s_Ltake : Stmt := top 22
noncomputable abbrev s_Lother : Stmt := top 23
noncomputable abbrev s_Lyard : Stmt := top 24
noncomputable abbrev s_Lword : Stmt := top 25
noncomputable abbrev s_Lorder : Stmt := top 26
noncomputable abbrev s_Lbands : Stmt := top 27
noncomputable abbrev s_Ldrawing : Stmt := top 28
noncomputable abbrev s_Lwords : Stmt := top 29
noncomputable abbrev s_Lexchanged : Stmt := top 30
noncomputable abbrev s_Llater : Stmt := top 31
noncomputable abbrev s_Lrenumbered : Stmt := top 32
noncomputable abbrev s_law : Stmt := top 33
structure FunAt (K : PySem.W.Frag) (mg : Str -> Option Value) (x : Str) (st : Stmt) (ps : List Str) (f : Addr) (fd : FuncData) : Prop where
  fn : Fun K x x st f fd
  mg : mg x = some (.ref f)
  bd : Binds K fd ps []
structure Txt (K : PySem.W.Frag) (mg : Str -> Option Value) (f0 f1 f2 f3 f4 f5 f6 f7 f8 f9 f10 f11 f12 f13 f14 f15 f16 f17 f18 f19 f20 f21 f22 f23 f24 f25 : Addr) (d0 d1 d2 d3 d4 d5 d6 d7 d8 d9 d10 d11 d12 d13 d14 d15 d16 d17 d18 d19 d20 d21 d22 d23 d24 d25 : FuncData) : Prop where
  F0 : FunAt K mg "contrary" s_contrary ["letter"] f0 d0
  F1 : FunAt K mg "foreign_sign" s_foreign_sign ["yard", "text"] f1 d1
  F2 : FunAt K mg "bands" s_bands ["yard"] f2 d2
  F3 : FunAt K mg "strands_at" s_strands_at ["yard", "drawing", "end"] f3 d3
  F4 : FunAt K mg "points" s_points ["yard", "drawing"] f4 d4
  F5 : FunAt K mg "corner_points" s_corner_points ["word", "cord", "place"] f5 d5
  F6 : FunAt K mg "corners" s_corners ["yard", "drawing"] f6 d6
  F7 : FunAt K mg "corners_meet" s_corners_meet ["one", "other"] f7 d7
  F8 : FunAt K mg "meetings" s_meetings ["yard", "drawing"] f8 d8
  F9 : FunAt K mg "strands_in" s_strands_in ["words", "band"] f9 d9
  F10 : FunAt K mg "look_words" s_look_words ["yard", "words"] f10 d10
  F11 : FunAt K mg "look_orders" s_look_orders ["yard", "words", "orders"] f11 d11
  F12 : FunAt K mg "look_drawing" s_look_drawing ["yard", "drawing"] f12 d12
  F13 : FunAt K mg "_law_box" s_Lbox ["_law_script", "_law_k"] f13 d13
  F14 : FunAt K mg "_law_take" s_Ltake ["_law_box_here", "_law_many"] f14 d14
  F15 : FunAt K mg "_law_other" s_Lother ["_law_letter"] f15 d15
  F16 : FunAt K mg "_law_yard" s_Lyard ["_law_box_here", "_law_few", "_law_top"] f16 d16
  F17 : FunAt K mg "_law_word" s_Lword ["_law_box_here", "_law_yard_here", "_law_top"] f17 d17
  F18 : FunAt K mg "_law_order" s_Lorder ["_law_box_here", "_law_things"] f18 d18
  F19 : FunAt K mg "_law_bands" s_Lbands ["_law_yard_here"] f19 d19
  F20 : FunAt K mg "_law_drawing" s_Ldrawing ["_law_box_here", "_law_yard_here", "_law_words_here"] f20 d20
  F21 : FunAt K mg "_law_words" s_Lwords ["_law_box_here", "_law_yard_here"] f21 d21
  F22 : FunAt K mg "_law_exchanged" s_Lexchanged ["_law_text", "_law_band"] f22 d22
  F23 : FunAt K mg "_law_later" s_Llater ["_law_drawing_here", "_law_c"] f23 d23
  F24 : FunAt K mg "_law_renumbered" s_Lrenumbered ["_law_told", "_law_c", "_law_many"] f24 d24
  F25 : FunAt K mg "law" s_law ["_law_script"] f25 d25
  z_enumerate : mg "enumerate" = none
  z_int : mg "int" = none
  z_len : mg "len" = none
  z_list : mg "list" = none
  z_max : mg "max" = none
  z_min : mg "min" = none
  z_range : mg "range" = none
  z_sorted : mg "sorted" = none
  z_tuple : mg "tuple" = none
theorem sc_contrary : FnScope ["letter"] ["letter"] (defScope s_contrary) := ⟨rfl, rfl, rfl, by decide +kernel, rfl, by decide +kernel, by decide +kernel⟩
theorem sc_foreign_sign : FnScope ["yard", "text", "at", "sign"] ["yard", "text"] (defScope s_foreign_sign) := ⟨rfl, rfl, rfl, by decide +kernel, rfl, by decide +kernel, by decide +kernel⟩
theorem sc_bands : FnScope ["yard"] ["yard"] (defScope s_bands) := ⟨rfl, rfl, rfl, by decide +kernel, rfl, by decide +kernel, by decide +kernel⟩
theorem sc_strands_at : FnScope ["yard", "drawing", "end", "order"] ["yard", "drawing", "end"] (defScope s_strands_at) := ⟨rfl, rfl, rfl, by decide +kernel, rfl, by decide +kernel, by decide +kernel⟩
theorem sc_points : FnScope ["yard", "drawing", "told", "end", "strand"] ["yard", "drawing"] (defScope s_points) := ⟨rfl, rfl, rfl, by decide +kernel, rfl, by decide +kernel, by decide +kernel⟩
theorem sc_corner_points : FnScope ["word", "cord", "place", "ahead"] ["word", "cord", "place"] (defScope s_corner_points) := ⟨rfl, rfl, rfl, by decide +kernel, rfl, by decide +kernel, by decide +kernel⟩
theorem sc_corners : FnScope ["yard", "drawing", "numbers", "number", "point", "told", "cord", "word", "place", "pair"] ["yard", "drawing"] (defScope s_corners) := ⟨rfl, rfl, rfl, by decide +kernel, rfl, by decide +kernel, by decide +kernel⟩
theorem sc_corners_meet : FnScope ["one", "other", "low", "high"] ["one", "other"] (defScope s_corners_meet) := ⟨rfl, rfl, rfl, by decide +kernel, rfl, by decide +kernel, by decide +kernel⟩
theorem sc_meetings : FnScope ["yard", "drawing", "told", "every", "number", "one", "other"] ["yard", "drawing"] (defScope s_meetings) := ⟨rfl, rfl, rfl, by decide +kernel, rfl, by decide +kernel, by decide +kernel⟩
theorem sc_strands_in : FnScope ["words", "band", "found", "cord", "word", "place", "letter"] ["words", "band"] (defScope s_strands_in) := ⟨rfl, rfl, rfl, by decide +kernel, rfl, by decide +kernel, by decide +kernel⟩
theorem sc_look_words : FnScope ["yard", "words", "number", "word"] ["yard", "words"] (defScope s_look_words) := ⟨rfl, rfl, rfl, by decide +kernel, rfl, by decide +kernel, by decide +kernel⟩
theorem sc_look_orders : FnScope ["yard", "words", "orders", "names", "number", "band"] ["yard", "words", "orders"] (defScope s_look_orders) := ⟨rfl, rfl, rfl, by decide +kernel, rfl, by decide +kernel, by decide +kernel⟩
theorem sc_look_drawing : FnScope ["yard", "drawing"] ["yard", "drawing"] (defScope s_look_drawing) := ⟨rfl, rfl, rfl, by decide +kernel, rfl, by decide +kernel, by decide +kernel⟩
theorem sc_Lbox : FnScope ["_law_script", "_law_k", "_law_cell", "_law_seed"] ["_law_script", "_law_k"] (defScope s_Lbox) := ⟨rfl, rfl, rfl, by decide +kernel, rfl, by decide +kernel, by decide +kernel⟩
theorem sc_Ltake : FnScope ["_law_box_here", "_law_many", "_law_digit", "_law_one"] ["_law_box_here", "_law_many"] (defScope s_Ltake) := ⟨rfl, rfl, rfl, by decide +kernel, rfl, by decide +kernel, by decide +kernel⟩
theorem sc_Lother : FnScope ["_law_letter", "_law_small", "_law_capital"] ["_law_letter"] (defScope s_Lother) := ⟨rfl, rfl, rfl, by decide +kernel, rfl, by decide +kernel, by decide +kernel⟩
theorem sc_Lyard : FnScope ["_law_box_here", "_law_few", "_law_top", "_law_left", "_law_ends", "_law_k", "_law_letter", "_law_found"] ["_law_box_here", "_law_few", "_law_top"] (defScope s_Lyard) := ⟨rfl, rfl, rfl, by decide +kernel, rfl, by decide +kernel, by decide +kernel⟩
theorem sc_Lword : FnScope ["_law_box_here", "_law_yard_here", "_law_top"] ["_law_box_here", "_law_yard_here", "_law_top"] (defScope s_Lword) := ⟨rfl, rfl, rfl, by decide +kernel, rfl, by decide +kernel, by decide +kernel⟩
theorem sc_Lorder : FnScope ["_law_box_here", "_law_things", "_law_left", "_law_found"] ["_law_box_here", "_law_things"] (defScope s_Lorder) := ⟨rfl, rfl, rfl, by decide +kernel, rfl, by decide +kernel, by decide +kernel⟩
theorem sc_Lbands : FnScope ["_law_yard_here"] ["_law_yard_here"] (defScope s_Lbands) := ⟨rfl, rfl, rfl, by decide +kernel, rfl, by decide +kernel, by decide +kernel⟩
theorem sc_Ldrawing : FnScope ["_law_box_here", "_law_yard_here", "_law_words_here", "_law_orders", "_law_band", "_law_some", "_law_c", "_law_word_here"] ["_law_box_here", "_law_yard_here", "_law_words_here"] (defScope s_Ldrawing) := ⟨rfl, rfl, rfl, by decide +kernel, rfl, by decide +kernel, by decide +kernel⟩
theorem sc_Lwords : FnScope ["_law_box_here", "_law_yard_here", "_law_left", "_law_found", "_law_k", "_law_word_here"] ["_law_box_here", "_law_yard_here"] (defScope s_Lwords) := ⟨rfl, rfl, rfl, by decide +kernel, rfl, by decide +kernel, by decide +kernel⟩
theorem sc_Lexchanged : FnScope ["_law_text", "_law_band"] ["_law_text", "_law_band"] (defScope s_Lexchanged) := ⟨rfl, rfl, rfl, by decide +kernel, rfl, by decide +kernel, by decide +kernel⟩
theorem sc_Llater : FnScope ["_law_drawing_here", "_law_c", "_law_words_here", "_law_orders", "_law_many", "_law_found", "_law_order_here"] ["_law_drawing_here", "_law_c"] (defScope s_Llater) := ⟨rfl, rfl, rfl, by decide +kernel, rfl, by decide +kernel, by decide +kernel⟩
theorem sc_Lrenumbered : FnScope ["_law_told", "_law_c", "_law_many", "_law_found", "_law_pair", "_law_some", "_law_d", "_law_i"] ["_law_told", "_law_c", "_law_many"] (defScope s_Lrenumbered) := ⟨rfl, rfl, rfl, by decide +kernel, rfl, by decide +kernel, by decide +kernel⟩
theorem sc_law : FnScope ["_law_script", "_law_box_here", "_law_yard_here", "_law_words_here", "_law_drawing_here", "_law_due", "_law_at", "_law_names", "_law_k", "_law_orders", "_law_other_here", "_law_c"] ["_law_script"] (defScope s_law) := ⟨rfl, rfl, rfl, by decide +kernel, rfl, by decide +kernel, by decide +kernel⟩
section
variable {P : Program} {w : World} {K : PySem.W.Frag} {mg : Str -> Option Value} {base : Heap} {f0 f1 f2 f3 f4 f5 f6 f7 f8 f9 f10 f11 f12 f13 f14 f15 f16 f17 f18 f19 f20 f21 f22 f23 f24 f25 : Addr} {d0 d1 d2 d3 d4 d5 d6 d7 d8 d9 d10 d11 d12 d13 d14 d15 d16 d17 d18 d19 d20 d21 d22 d23 d24 d25 : FuncData}
variable (T : Txt K mg f0 f1 f2 f3 f4 f5 f6 f7 f8 f9 f10 f11 f12 f13 f14 f15 f16 f17 f18 f19 f20 f21 f22 f23 f24 f25 d0 d1 d2 d3 d4 d5 d6 d7 d8 d9 d10 d11 d12 d13 d14 d15 d16 d17 d18 d19 d20 d21 d22 d23 d24 d25)
include T
theorem ok_bands : FnOk P w K mg base CX0 1 f2 d2 ["yard"] (sp_bands K) := by
  refine T.F2.fn.ok sc_bands (fun vs H Q E h => len_bands h) (fun cdv A outer s H vs Q E hr h => ?_)
  refine ⟨_, (pss_one (ps_ret (pe_bmK K rfl PySem.F.plainAttrs_str PySem.F.slot_str_join PySem.F.type_str_join (mt_joinK K rfl) (pe_S [] (by decide +kernel)) (pa_cons (pe_callB (call_sortedK K rfl) rfl T.z_sorted boot_sorted (pa_cons (pe_compB ["letter"] [none] (pi_str (pv 0)) trivial (fun _ _ _ _ => (pg_name (i := 0) (by decide +kernel : List.Nodup (["letter"] : List Str)) rfl (Or.inl rfl))) (fun _ _ _ _ => (pf_one (pt_val (pe_bm0K K rfl PySem.F.plainAttrs_str PySem.F.slot_str_islower PySem.F.type_str_islower mt_islower (pv 0))))) (fun _ _ _ _ => (pv 0))) pa_nil)) pa_nil)))), ?_⟩
  obtain ⟨l, rfl, hl, hz, q⟩ := h
  have hs : (1000 : Nat) < sizeLine := by decide
  refine ⟨rfl, _, rfl, l, rfl, ?_⟩
  refine comp_fix (xs := sgs l) (fun i acc H' => Same H H' /\ acc = sgs ((l.take i).filter isLow)) (by rw [sgs_len]; omega) ⟨Same.refl H, rfl⟩ ?_ ?_
  · rintro i x acc H1 Nx hi hx hal ⟨s1, rfl⟩ nx
    obtain ⟨c, hc, rfl⟩ := sgs_get hx
    have e := filter_take (p := isLow) hc
    refine ⟨trivial, ?_⟩
    refine ⟨_, rfl, rfl, c, rfl, rfl, hl c (List.mem_of_getElem? hc), _, rfl, ?_⟩
    refine ite2 (fun z => ?_) (fun z => ?_)
    · rw [if_pos z] at e
      exact ⟨_, rfl, nx _ _ (by simpa using hal) ⟨s1, by rw [e, <- sgs_snoc]⟩⟩
    · rw [if_neg z, List.append_nil] at e
      exact nx _ _ (Nat.le_succ_of_le hal) ⟨s1, by rw [e]⟩
  · rintro acc H1 D hal ⟨s1, rfl⟩ hD
    rw [sgs_take, sgs_lists]
    have hfl : (l.filter isLow).length <= l.length := List.length_filter_le _ _
    refine ⟨D, (l.filter isLow).map fun c => [c], rfl, SqL.of upd_same, by rw [List.length_map]; omega, fun p ls hp hpm hpw => ?_⟩
    obtain ⟨l', rfl, pl⟩ := ones_of hpm
    have hl' := pl.length_eq
    refine ⟨p, l'.map fun c => [c], rfl, rfl, SqL.of upd_same, by rw [sum1]; omega, ?_⟩
    rw [flat1]
    exact q l' _ pl (ones_pw hpw) ((s1.trans (Same.upd hD)).trans (Same.upd hp))
theorem ok_strands_at : FnOk P w K mg base CX0 2 f3 d3 ["yard", "drawing", "end"] (sp_strands_at K) := by
  have G_bands := ok_bands (P := P) (w := w) (base := base) T
  refine T.F3.fn.ok sc_strands_at (fun vs H Q E h => len_strands_at h) (fun cdv A outer s H vs Q E hr h => ?_)
  refine ⟨_, (pss_cons (ps_set (i := 3) sc_strands_at.nd rfl (Or.inl rfl) (pe_callTy (call_list_ofK K rfl) rfl T.z_list boot_list (pa_cons (pe_ix (ix_tupK K rfl) (pe_ix (ix_tupK K rfl) (pv 1) pe_int (fun _ _ => rfl)) (pe_bmK K rfl PySem.F.plainAttrs_str PySem.F.slot_str_index PySem.F.type_str_index mt_indexS (pe_call G_bands (hr.mono (by decide)) rfl T.F2.mg T.F2.fn.kp T.F2.bd .nil pass0 (pa_cons (pv 0) pa_nil)) (pa_cons (pe_bm0K K rfl PySem.F.plainAttrs_str PySem.F.slot_str_lower PySem.F.type_str_lower mt_lower (pv 2)) pa_nil)) (fun _ _ => rfl)) pa_nil)))
      (pss_cons (ps_if (pt_val (pe_bm0K K rfl PySem.F.plainAttrs_str PySem.F.slot_str_isupper PySem.F.type_str_isupper mt_isupper (pv 2))) (pss_one (ps_expr (pe_bm0K K rfl PySem.F.plainAttrs_list PySem.F.slot_list_reverse PySem.F.type_list_reverse mt_reverse (pv 3)))) pss_nil)
      (pss_one (ps_ret (pv 3))))), ?_⟩
  obtain ⟨y, dr, ws, os, e, rfl, hy, hz, he, ho, hd, q⟩ := h
  have hs : (100000 : Nat) < sizeLine := by decide
  have hy8 : ∀ c ∈ y, c < 128 := lt128 hy.lt
  have he8 := hy8 e he
  obtain ⟨⟨wt, ot, d1, d2, d3⟩, dO⟩ := hd
  obtain ⟨o, o1, o2, o3⟩ := odAt_get hy he ho
  refine ⟨_, rfl, dr, _, 1, _, rfl, rfl, SqT.of d1, rfl, ?_⟩
  refine ⟨_, rfl, y, rfl, hy8, by omega, fun l' H1 hl' hw' s1 => ?_⟩
  have el := bsOf_eq hl' hw'
  subst el
  refine ⟨rfl, _, rfl, rfl, e, rfl, rfl, he8, ?_⟩
  refine ⟨bsOf y, _, rfl, rfl, lo_in hy he, ?_⟩
  refine ⟨ot, _, _, _, rfl, rfl, SqT.of (s1 _ _ d3), atI_nat (odv_at o2), ?_⟩
  refine ⟨o.o, _, rfl, .inr (SqT.of (s1 _ _ (dO o o1).tp)), fun p1 n1 => ?_⟩
  refine ⟨_, rfl, rfl, e, rfl, rfl, he8, _, rfl, ite2 (fun z => ?_) (fun z => ?_)⟩
  · refine ⟨_, rfl, .inl ⟨rfl, _, SqL.of upd_same⟩, p1, _, rfl, rfl, upd_same, ?_⟩
    refine ⟨_, rfl, q p1 _ (Same.free s1 n1) ?_ ?_⟩
    · rw [upd_same, prv_rev]
      unfold stA
      rw [if_pos z, o3]
    · exact fun a u ea => by rw [upd_ne (ne_of_none ea (Same.free s1 n1)), upd_ne (ne_of_none ea (Same.free s1 n1))]; exact s1 a u ea
  · refine ⟨_, rfl, q p1 _ (Same.free s1 n1) ?_ (s1.trans (Same.upd n1))⟩
    rw [upd_same]
    unfold stA
    rw [if_neg z, o3]
theorem ok_points : FnOk P w K mg base CX0 3 f4 d4 ["yard", "drawing"] (sp_points K) := by
  have G_strands_at := ok_strands_at (P := P) (w := w) (base := base) T
  refine T.F4.fn.ok sc_points (fun vs H Q E h => len_points h) (fun cdv A outer s H vs Q E hr h => ?_)
  refine ⟨_, (pss_cons (ps_set (i := 2) sc_points.nd rfl (Or.inl rfl) (pe_lst pa_nil))
      (pss_cons (ps_for PassesOwn.never rfl (pi_str (pv 0)) (pg_name (i := 3) sc_points.nd rfl (Or.inl rfl)) (pss_one (ps_for PassesOwn.never rfl (pi_listK K rfl (pe_call G_strands_at (hr.mono (by decide)) rfl T.F3.mg T.F3.fn.kp T.F3.bd .nil pass0 (pa_cons (pv 0) (pa_cons (pv 1) (pa_cons (pv 3) pa_nil))))) (pg_name (i := 4) sc_points.nd rfl (Or.inl rfl)) (pss_one (ps_expr (pe_bmK K rfl PySem.F.plainAttrs_list PySem.F.slot_list_append PySem.F.type_list_append mt_append (pv 2) (pa_cons (pe_tup (pa_cons (pe_ix (ix_tupK K rfl) (pv 4) pe_int (fun _ _ => rfl)) (pa_cons (pe_ix (ix_tupK K rfl) (pv 4) pe_int (fun _ _ => rfl)) (pa_cons (pv 3) pa_nil)))) pa_nil)))))))
      (pss_one (ps_ret (pv 2))))), ?_⟩
  obtain ⟨y, dr, ws, os, rfl, hy, hz, ho, hd, q⟩ := h
  have hs : (100000 : Nat) < sizeLine := by decide
  (repeat (first | refine ⟨_, rfl, ?_⟩ | refine ⟨_, _, rfl, rfl, ?_⟩ | refine ⟨_, _, _, rfl, rfl, by first | assumption | omega, by assumption, ?_⟩ | refine ⟨rfl, ?_⟩ | refine And.intro (by first | decide | omega | assumption | exact Nat.le_of_ble_eq_true rfl | exact .inl ⟨by decide, by decide⟩ | exact .inr ⟨by decide, by decide⟩ | exact ⟨by decide, by decide⟩ | exact ⟨by omega, by omega⟩) ?_))
  intro p1 n1
  refine ⟨_, rfl, y, rfl, ?_⟩
  refine for_fix (xs := sgs y) (fun i σ H' => ∃ (ps : List Pt) (ev sv : Option V), σ = [some (.str (S y)), some (.ref dr), some (.ref p1), ev, sv] /\ H' p1 = some (.lst (ptv ps)) /\ (∀ p ∈ ps, PtOk H' p /\ p.t ≠ p1) /\ ps.map Pt.is = (y.take i).flatMap (ptsAt y os) /\ ps.length <= 100 * i /\ SameB p1 H H') ⟨[], none, none, rfl, upd_same, fun _ h => absurd h List.not_mem_nil, rfl, Nat.zero_le _, SameB.of (Same.upd n1)⟩ ?_ ?_
  · rintro i x σ H1 hx ⟨ps, ev, sv, rfl, hp, hps, hpe, hpl, s1⟩
    obtain ⟨e, he, rfl⟩ := sgs_get hx
    have hey := List.mem_of_getElem? he
    have hi : i < y.length := (List.getElem?_eq_some_iff.mp he).1
    have s01 : Same H H1 := fun a u ea => s1 a u ea (ne_of_none ea n1)
    refine ⟨_, rfl, _, rfl, _, rfl, y, dr, ws, os, e, rfl, hy, hz, hey, ho, hd.same s01, fun p2 H2 n2 hp2 s2 => ?_⟩
    have hsl := stA_len (H := H) hy hey ho hd.od
    refine ⟨p2, rfl, ⟨_, SqL.of hp2⟩, ?_⟩
    have h12 : p2 ≠ p1 := fun z => by rw [z, hp] at n2; cases n2
    refine for_list (K := K) (a := p2) (xs := prv (stA y os e)) (fun j σ H' => ∃ (us : List Pt) (sv : Option V), σ = [some (.str (S y)), some (.ref dr), some (.ref p1), some (.str (S [e])), sv] /\ H' p1 = some (.lst (ptv us)) /\ H' p2 = some (.lst (prv (stA y os e))) /\ (∀ p ∈ us, PtOk H' p /\ p.t ≠ p1) /\ us.map Pt.is = ps.map Pt.is ++ ((stA y os e).take j).map (fun p => (p.c, p.i, e)) /\ us.length <= 100 * i + j /\ SameB p1 H1 H')
      ⟨ps, sv, rfl, s2 _ _ hp, hp2, fun p hp' => ⟨(hps p hp').1.same s2, (hps p hp').2⟩, by simp, by omega, SameB.of s2⟩ (fun j σ H' _ ⟨_, _, _, _, h, _⟩ => SqL.of h) ?_ ?_
    · rintro j x σ H3 hx3 ⟨us, sv3, rfl, hp3, hp23, hu3, hue, hul, s3⟩
      obtain ⟨p, hpj, rfl⟩ := prv_at hx3
      obtain ⟨o, oo, po⟩ := stA_mem hy hey ho (List.mem_of_getElem? hpj)
      have hj : j < (stA y os e).length := (List.getElem?_eq_some_iff.mp hpj).1
      have s03 : Same H H3 := fun a u ea => s3 a u (s01 a u ea) (ne_of_none ea n1)
      have pk := (hd.od o oo).pr p po
      have tp := s03 _ _ pk.tp
      refine ⟨_, rfl, .inl ⟨rfl, _, SqL.of hp3⟩, ?_⟩
      refine ⟨_, rfl, p.t, _, 0, _, rfl, rfl, SqT.of tp, rfl, _, rfl, p.t, _, 1, _, rfl, rfl, SqT.of tp, rfl, ?_⟩
      (repeat (first | refine ⟨_, rfl, ?_⟩ | refine ⟨_, _, rfl, rfl, ?_⟩ | refine ⟨_, _, _, rfl, rfl, by first | assumption | omega, by assumption, ?_⟩ | refine ⟨rfl, ?_⟩ | refine And.intro (by first | decide | omega | assumption | exact Nat.le_of_ble_eq_true rfl | exact .inl ⟨by decide, by decide⟩ | exact .inr ⟨by decide, by decide⟩ | exact ⟨by decide, by decide⟩ | exact ⟨by omega, by omega⟩) ?_))
      intro t nt
      have ht1 : t ≠ p1 := fun z => by rw [z, hp3] at nt; cases nt
      refine ⟨p1, _, _, rfl, rfl, (Same.upd nt) _ _ hp3, by rw [ptv_len]; omega, ?_⟩
      refine ⟨us ++ [⟨t, p.c, p.i, e⟩], _, rfl, by rw [upd_same]; exact congrArg (fun x => some (HO.lst x)) (ptv_snoc us ⟨t, p.c, p.i, e⟩), by rw [upd_ne h12]; exact (Same.upd nt) _ _ hp23, fun r hr => ?_, ?_, by rw [List.length_append]; show us.length + 1 <= _; omega, fun a u ea z => by rw [upd_ne z]; exact (Same.upd nt) _ _ (s3 a u ea z)⟩
      · rcases List.mem_append.mp hr with z | z
        · exact ⟨((hu3 r z).1.same (Same.upd nt)).upd (hu3 r z).2, (hu3 r z).2⟩
        · have e2 := List.mem_singleton.mp z
          subst e2
          exact ⟨PtOk.upd ⟨upd_same, pk.cz, pk.iz, (hy.lt e hey).lt⟩ ht1, ht1⟩
      · rw [List.map_append, hue, <- take_snoc hpj, List.map_append, List.append_assoc]
        rfl
    · rintro σ H3 ⟨us, sv3, rfl, hp3, hp23, hu3, hue, hul, s3⟩
      rw [prv_len] at hul hue
      refine ⟨us, _, _, rfl, hp3, hu3, ?_, by omega, fun a u ea z => s3 a u (s1 a u ea z) z⟩
      rw [hue, hpe, <- take_snoc he, List.flatMap_append, List.take_length, List.flatMap_cons, List.flatMap_nil, List.append_nil]
      rfl
  · rintro σ H1 ⟨ps, ev, sv, rfl, hp, hps, hpe, hpl, s1⟩
    rw [sgs_len] at hpl hpe
    rw [List.take_length] at hpe
    exact ⟨_, rfl, q p1 ps H1 n1 hp hps hpe (by omega) (fun a u ea => s1 a u ea (ne_of_none ea n1))⟩
theorem ok_contrary : FnOk P w K mg base CX0 1 f0 d0 ["letter"] (sp_contrary K) := by
  refine T.F0.fn.ok sc_contrary (fun vs H Q E h => len_contrary h) (fun cdv A outer s H vs Q E hr h => ?_)
  refine ⟨_, (pss_cons (ps_if (pt_val (pe_bm0K K rfl PySem.F.plainAttrs_str PySem.F.slot_str_islower PySem.F.type_str_islower mt_islower (pv 0))) (pss_one (ps_ret (pe_bm0K K rfl PySem.F.plainAttrs_str PySem.F.slot_str_upper PySem.F.type_str_upper mt_upper (pv 0)))) pss_nil)
      (pss_one (ps_ret (pe_bm0K K rfl PySem.F.plainAttrs_str PySem.F.slot_str_lower PySem.F.type_str_lower mt_lower (pv 0))))), ?_⟩
  obtain ⟨c, rfl, hc, q⟩ := h
  refine ⟨_, rfl, rfl, c, rfl, rfl, hc, _, rfl, ite2 (fun e => ?_) (fun e => ?_)⟩
  · refine ⟨_, rfl, rfl, c, rfl, rfl, hc, ?_⟩
    have z : ctr c = PyProof.Rows.up1 c := if_pos e
    rw [<- z]
    exact q
  · refine ⟨_, rfl, rfl, c, rfl, rfl, hc, ?_⟩
    have z : ctr c = PyProof.Rows.lo1 c := if_neg e
    rw [<- z]
    exact q
theorem ok_corner_points : FnOk P w K mg base CX0 2 f5 d5 ["word", "cord", "place"] (sp_corner_points K) := by
  have G_contrary := ok_contrary (P := P) (w := w) (base := base) T
  refine T.F5.fn.ok sc_corner_points (fun vs H Q E h => len_corner_points h) (fun cdv A outer s H vs Q E hr h => ?_)
  refine ⟨_, (pss_cons (ps_set (i := 3) sc_corner_points.nd rfl (Or.inl rfl) (pe_op op_mod (pe_op op_sub (pv 2) pe_int) (pe_callB call_lenS rfl T.z_len PySem.boot_len (pa_cons (pv 0) pa_nil))))
      (pss_one (ps_ret (pe_tup (pa_cons (pe_tup (pa_cons (pv 1) (pa_cons (pv 3) (pa_cons (pe_call G_contrary (hr.mono (by decide)) rfl T.F0.mg T.F0.fn.kp T.F0.bd .nil pass0 (pa_cons (pe_ix ix_S (pv 0) (pv 3) (fun _ _ => rfl)) pa_nil)) pa_nil)))) (pa_cons (pe_tup (pa_cons (pv 1) (pa_cons (pv 2) (pa_cons (pe_ix ix_S (pv 0) (pv 2) (fun _ _ => rfl)) pa_nil)))) pa_nil)))))), ?_⟩
  obtain ⟨w, c, i, rfl, hw8, hi, hz, q⟩ := h
  have hs : (100000 : Nat) < sizeLine := by decide
  have hp : (0 : Int) < (w.length : Int) := by omega
  have hpr := prd_int hi
  have hpl := prd_lt hi
  have e1 : w.getD (prd w.length i) 0 = w[prd w.length i] := by rw [List.getD_eq_getElem?_getD, List.getElem?_eq_getElem hpl]; rfl
  have e2 : w.getD i 0 = w[i] := by rw [List.getD_eq_getElem?_getD, List.getElem?_eq_getElem hi]; rfl
  rw [e1, e2] at q
  refine ⟨_, rfl, _, _, rfl, rfl, _, rfl, w, rfl, by omega, _, _, rfl, rfl, hp, ?_⟩
  show gName 3 (V.int (((i : Int) - 1) % (w.length : Int))) _ _ _
  rw [hpr]
  refine ⟨_, rfl, _, rfl, _, rfl, _, rfl, w, _, _, rfl, rfl, by omega, atI_nat (List.getElem?_eq_getElem hpl), _, rfl, hw8 _ (List.getElem_mem hpl), by show 3 <= sizeLine; decide, fun t1 n1 => ?_⟩
  refine ⟨_, rfl, _, rfl, _, rfl, _, rfl, w, _, _, rfl, rfl, by omega, atI_nat (List.getElem?_eq_getElem hi), by show 3 <= sizeLine; decide, fun t2 n2 => ?_⟩
  refine ⟨by show 2 <= sizeLine; decide, fun t nt => ?_⟩
  have h1t := (Same.upd (o := .tup [.ref t1, .ref t2]) nt)
  refine q t t1 t2 _ upd_same (h1t _ _ ((Same.upd n2) _ _ upd_same)) (h1t _ _ upd_same) ((Same.upd n1).trans ((Same.upd n2).trans h1t))
theorem ok_corners : FnOk P w K mg base CX0 4 f6 d6 ["yard", "drawing"] (sp_corners K) := by
  have G_points := ok_points (P := P) (w := w) (base := base) T
  have G_corner_points := ok_corner_points (P := P) (w := w) (base := base) T
  refine T.F6.fn.ok sc_corners (fun vs H Q E h => len_corners h) (fun cdv A outer s H vs Q E hr h => ?_)
  refine ⟨_, (pss_cons (ps_set (i := 2) sc_corners.nd rfl (Or.inl rfl) pe_dnewT)
      (pss_cons (ps_for PassesOwn.never rfl (pi_enumL K rfl rfl T.z_enumerate (pa_cons (pe_call G_points (hr.mono (by decide)) rfl T.F4.mg T.F4.fn.kp T.F4.bd .nil pass0 (pa_cons (pv 0) (pa_cons (pv 1) pa_nil))) pa_nil)) (pg_tupK (n := 2) K rfl rfl (pgs_cons (pg_name (i := 3) sc_corners.nd rfl (Or.inl rfl)) (pgs_cons (pg_name (i := 4) sc_corners.nd rfl (Or.inl rfl)) pgs_nil))) (pss_one (ps_dput (hu_of hr) (pv 2) (pv 4) (pv 3) rfl)))
      (pss_cons (ps_set (i := 5) sc_corners.nd rfl (Or.inl rfl) (pe_lst pa_nil))
      (pss_cons (ps_for PassesOwn.never rfl (pi_enumT K rfl rfl T.z_enumerate (pa_cons (pe_ix (ix_tupK K rfl) (pv 1) pe_int (fun _ _ => rfl)) pa_nil)) (pg_tupK (n := 2) K rfl rfl (pgs_cons (pg_name (i := 6) sc_corners.nd rfl (Or.inl rfl)) (pgs_cons (pg_name (i := 7) sc_corners.nd rfl (Or.inl rfl)) pgs_nil))) (pss_one (ps_for PassesOwn.never rfl (pi_range1 rfl T.z_range (pa_cons (pe_callB call_lenS rfl T.z_len PySem.boot_len (pa_cons (pv 7) pa_nil)) pa_nil)) (pg_name (i := 8) sc_corners.nd rfl (Or.inl rfl)) (pss_cons (ps_set (i := 9) sc_corners.nd rfl (Or.inl rfl) (pe_call G_corner_points (hr.mono (by decide)) rfl T.F5.mg T.F5.fn.kp T.F5.bd .nil pass0 (pa_cons (pv 7) (pa_cons (pv 6) (pa_cons (pv 8) pa_nil)))))
      (pss_one (ps_expr (pe_bmK K rfl PySem.F.plainAttrs_list PySem.F.slot_list_append PySem.F.type_list_append mt_append (pv 5) (pa_cons (pe_tup (pa_cons (pv 6) (pa_cons (pv 8) (pa_cons (pe_dget (hu_of hr) (pv 2) (pe_ix (ix_tupK K rfl) (pv 9) pe_int (fun _ _ => rfl)) (fun _ _ => rfl)) (pa_cons (pe_dget (hu_of hr) (pv 2) (pe_ix (ix_tupK K rfl) (pv 9) pe_int (fun _ _ => rfl)) (fun _ _ => rfl)) pa_nil))))) pa_nil))))))))
      (pss_one (ps_ret (pv 5))))))), ?_⟩
  obtain ⟨y, dr, ws, os, rfl, hy, hz, hws, hos, hd, q⟩ := h
  have hs : (100000 : Nat) < sizeLine := by decide
  have hnd := pts_nd hy hos
  have hbl := bsOf_len hy
  have hol := hos.1
  have hwf := hws.few
  obtain ⟨⟨wt, ot, d1, d2, d3⟩, dO⟩ := id hd
  (repeat (first | refine ⟨_, rfl, ?_⟩ | refine ⟨_, _, rfl, rfl, ?_⟩ | refine ⟨_, _, _, rfl, rfl, by first | assumption | omega, by assumption, ?_⟩ | refine ⟨rfl, ?_⟩ | refine And.intro (by first | decide | omega | assumption | exact Nat.le_of_ble_eq_true rfl | exact .inl ⟨by decide, by decide⟩ | exact .inr ⟨by decide, by decide⟩ | exact ⟨by decide, by decide⟩ | exact ⟨by omega, by omega⟩) ?_))
  intro d nd
  refine ⟨_, rfl, _, rfl, y, dr, ws, os, rfl, hy, hz, by omega, hd.same (Same.upd nd), fun p1 ps H1 n1 hp1 hps hpe hpz s1 => ?_⟩
  have hd1 := s1 _ _ (upd_same (H := H) (a := d) (o := HO.dT []))
  have s01 : Same H H1 := (Same.upd nd).trans s1
  have hpl : ps.length = (pts y os).length := by rw [<- hpe, List.length_map]
  refine ⟨p1, rfl, ⟨_, SqL.of hp1⟩, ?_⟩
  have h1d : p1 ≠ d := fun z => by rw [z, upd_same] at n1; cases n1
  refine for_enumL (K := K) (a := p1) (xs := ptv ps) (fun i σ H' => ∃ (kvs : List (List Key × V)) (nv pv : Option V), σ = [some (.str (S y)), some (.ref dr), some (.ref d), nv, pv, none, none, none, none, none] /\ H' d = some (.dT kvs) /\ Nums (pts y os) kvs i /\ kvs.length <= i /\ SameB d H1 H')
    ⟨[], none, none, rfl, hd1, fun p hp => absurd hp (by simp), Nat.zero_le _, SameB.refl _ _⟩ (fun i σ H' _ ⟨_, _, _, _, _, _, _, h⟩ => SqL.of (h _ _ hp1 h1d)) ?_ ?_
  · rintro i x σ H2 T hx ⟨kvs, nv, pv, rfl, hd2, hnum, hkl, s2⟩ nT
    obtain ⟨p, hp, rfl⟩ : ∃ p, ps[i]? = some p /\ x = V.ref p.t := by
      unfold ptv at hx
      rw [List.getElem?_map] at hx
      cases e : ps[i]? with
      | none => rw [e] at hx; cases hx
      | some p => rw [e] at hx; cases hx; exact ⟨p, rfl, rfl⟩
    have hi : i < ps.length := (List.getElem?_eq_some_iff.mp hp).1
    have pk := (hps p (List.mem_of_getElem? hp)).1.tp
    have hpd : p.t ≠ d := fun z => by rw [z, hd1] at pk; cases pk
    have hTd : d ≠ T := ne_of_none hd2 nT
    refine ⟨T, _, rfl, SqT.of upd_same, rfl, _, _, rfl, _, _, rfl, rfl, ?_⟩
    refine ⟨_, rfl, _, rfl, _, rfl, d, _, rfl, DPut.t (k := key3 p.is) (by rw [upd_ne hTd]; exact hd2) ((Same.upd nT) _ _ (s2 _ _ pk hpd)) (by omega), ?_⟩
    exact ⟨_, _, _, rfl, upd_same, hnum.put hnd (pt_ne hpe hp), Nat.le_trans (length_putK _ _ _) (by omega), fun a o ea z => by rw [upd_ne z]; exact (Same.upd nT) _ _ (s2 a o ea z)⟩
  · rintro σ H2 ⟨kvs, nv, pv, rfl, hd2, hnum, hkl, s2⟩
    rw [ptv_len, hpl] at hnum
    have hnum2 : ∀ p ∈ pts y os, valV kvs (key3 p) = some (.int ((pts y os).idxOf p : Nat)) := fun p hp => hnum p (by rw [List.take_length]; exact hp)
    have s02 : Same H H2 := fun a o ea => s2 a o (s01 a o ea) (ne_of_none ea nd)
    (repeat (first | refine ⟨_, rfl, ?_⟩ | refine ⟨_, _, rfl, rfl, ?_⟩ | refine ⟨_, _, _, rfl, rfl, by first | assumption | omega, by assumption, ?_⟩ | refine ⟨rfl, ?_⟩ | refine And.intro (by first | decide | omega | assumption | exact Nat.le_of_ble_eq_true rfl | exact .inl ⟨by decide, by decide⟩ | exact .inr ⟨by decide, by decide⟩ | exact ⟨by decide, by decide⟩ | exact ⟨by omega, by omega⟩) ?_))
    intro p2 n2
    have s22 := Same.upd (o := .lst []) n2
    have n20 : H p2 = none := Same.free s02 n2
    refine ⟨_, rfl, dr, _, 0, _, rfl, rfl, SqT.of (s22 _ _ (s02 _ _ d1)), rfl, ?_⟩
    refine ⟨wt, rfl, ⟨_, SqT.of (s22 _ _ (s02 _ _ d2))⟩, ?_⟩
    refine for_enumT (K := K) (a := wt) (xs := txs ws) (fun j σ H' => ∃ (qs : List Q4) (cv wv iv av : Option V), σ = [some (.str (S y)), some (.ref dr), some (.ref d), nv, pv, some (.ref p2), cv, wv, iv, av] /\ H' p2 = some (.lst (q4v qs)) /\ (∀ x ∈ qs, Q4Ok H' x) /\ qs.map Q4.v = cornAll (pts y os) ws j /\ qs.length <= 12 * j /\ Same H2 H')
      ⟨[], none, none, none, none, rfl, upd_same, fun _ h => absurd h List.not_mem_nil, rfl, Nat.zero_le _, s22⟩ (fun j σ H' _ ⟨_, _, _, _, _, _, _, _, _, _, h⟩ => SqT.of (h _ _ (s02 _ _ d2))) ?_ ?_
    · rintro j x σ H3 T hx ⟨qs, cv, wv, iv, av, rfl, hp3, hqs, hqe, hql, s3⟩ nT
      have hj : j < ws.length := by
        have := (List.getElem?_eq_some_iff.mp hx).1
        rwa [txs_len] at this
      rw [txs_at hj] at hx
      cases hx
      have hjw : ws[j]? = some ws[j] := List.getElem?_eq_getElem hj
      obtain ⟨hwy, hwz⟩ := hws.all _ (List.getElem_mem hj)
      generalize ws[j] = w at hjw hwy hwz ⊢
      have hw8 : ∀ l ∈ w, l < 128 := fun l hl => (hy.lt l (hwy l hl)).lt
      have sT := Same.upd (o := .tup [.int j, .str (S w)]) nT
      refine ⟨T, _, rfl, SqT.of upd_same, rfl, _, _, rfl, _, _, rfl, rfl, ?_⟩
      refine ⟨_, rfl, w, rfl, by omega, _, rfl, by omega, by omega, ?_⟩
      rw [Int.toNat_natCast]
      refine for_range (fun i σ H' => ∃ (us : List Q4) (iv av : Option V), σ = [some (.str (S y)), some (.ref dr), some (.ref d), nv, pv, some (.ref p2), some (.int j), some (.str (S w)), iv, av] /\ H' p2 = some (.lst (q4v us)) /\ (∀ x ∈ us, Q4Ok H' x) /\ us.map Q4.v = cornAll (pts y os) ws j ++ cornUp (pts y os) j w i /\ us.length <= 12 * j + i /\ Same H2 H')
        ⟨qs, iv, av, rfl, sT _ _ hp3, fun x hx => (hqs x hx).ts (TSame.of sT), by rw [hqe]; show _ = _ ++ []; rw [List.append_nil], by omega, s3.trans sT⟩ ?_ ?_
      · rintro i σ H4 hi ⟨us, iv4, av4, rfl, hp4, hus, hue, hul, s4⟩
        have e1 : w[prd w.length i]? = some (w.getD (prd w.length i) 0) := by rw [List.getD_eq_getElem?_getD, List.getElem?_eq_getElem (prd_lt hi)]; rfl
        have e2 : w[i]? = some (w.getD i 0) := by rw [List.getD_eq_getElem?_getD, List.getElem?_eq_getElem hi]; rfl
        have m1 := hnum2 _ (pt_in hy hos hjw e1 (hwy _ (List.mem_of_getElem? e1)) (.inr rfl))
        have m2 := hnum2 _ (pt_in hy hos hjw e2 (hwy _ (List.mem_of_getElem? e2)) (.inl rfl))
        refine ⟨_, rfl, _, rfl, _, rfl, w, j, i, by rw [Int.zero_add]; rfl, hw8, hi, by omega, fun t t1 t2 H5 ht ht1 ht2 s5 => ?_⟩
        have hp5 := s5 _ _ hp4
        have hd5 := s5 _ _ (s4 _ _ hd2)
        refine ⟨_, rfl, .inl ⟨rfl, _, SqL.of hp5⟩, _, rfl, _, rfl, ?_⟩
        refine ⟨_, rfl, _, rfl, t, _, 0, _, rfl, rfl, SqT.of ht, rfl, d, _, rfl, by rw [<- m1]; exact DGet.t hd5 ht1, ?_⟩
        refine ⟨_, rfl, _, rfl, t, _, 1, _, rfl, rfl, SqT.of ht, rfl, d, _, rfl, by rw [<- m2]; exact DGet.t hd5 ht2, ?_⟩
        rw [Int.zero_add]
        refine ⟨by show 4 <= sizeLine; decide, fun tq ntq => ?_⟩
        have s6 := s5.trans (Same.upd (o := .tup [.int j, .int i, .int ((pts y os).idxOf (j, prd w.length i, ctr (w.getD (prd w.length i) 0)) : Nat), .int ((pts y os).idxOf (j, i, w.getD i 0) : Nat)]) ntq)
        have hp6 := s6 _ _ hp4
        refine ⟨p2, _, _, rfl, rfl, hp6, by rw [q4v_len]; omega, ?_⟩
        refine ⟨us ++ [⟨tq, cornM (pts y os) j w i⟩], _, _, rfl, by rw [upd_same]; exact congrArg (fun x => some (HO.lst x)) (q4v_snoc us ⟨tq, cornM (pts y os) j w i⟩), fun x hx => ?_, by rw [List.map_append, hue, cornUp_succ, List.append_assoc]; rfl, by rw [List.length_append]; show us.length + 1 <= _; omega, fun a o ea => by rw [upd_ne (ne_of_none ea n2)]; exact s6 _ _ (s4 a o ea)⟩
        rcases List.mem_append.mp hx with g | g
        · exact (hus x g).ts ((TSame.of s6).trans (TSame.updL hp6))
        · have e3 := List.mem_singleton.mp g
          subst e3
          exact (TSame.updL hp6) _ _ upd_same
      · rintro σ H4 ⟨us, iv4, av4, rfl, hp4, hus, hue, hul, s4⟩
        exact ⟨us, _, _, _, _, rfl, hp4, hus, by rw [hue, cornAll_succ hjw], by omega, s4⟩
    · rintro σ H3 ⟨qs, cv, wv, iv, av, rfl, hp3, hqs, hqe, hql, s3⟩
      rw [txs_len] at hqe
      exact ⟨_, rfl, q p2 qs H3 n20 hp3 hqs hqe (s02.trans s3)⟩
theorem ok_corners_meet : FnOk P w K mg base CX0 1 f7 d7 ["one", "other"] (sp_corners_meet K) := by
  refine T.F7.fn.ok sc_corners_meet (fun vs H Q E h => len_corners_meet h) (fun cdv A outer s H vs Q E hr h => ?_)
  refine ⟨_, (pss_cons (ps_set (i := 2) sc_corners_meet.nd rfl (Or.inl rfl) (pe_callB (call_min2 rfl) rfl T.z_min boot_min (pa_cons (pe_ix (ix_tupK K rfl) (pv 0) pe_int (fun _ _ => rfl)) (pa_cons (pe_ix (ix_tupK K rfl) (pv 0) pe_int (fun _ _ => rfl)) pa_nil))))
      (pss_cons (ps_set (i := 3) sc_corners_meet.nd rfl (Or.inl rfl) (pe_callB (call_max2 rfl) rfl T.z_max boot_max (pa_cons (pe_ix (ix_tupK K rfl) (pv 0) pe_int (fun _ _ => rfl)) (pa_cons (pe_ix (ix_tupK K rfl) (pv 0) pe_int (fun _ _ => rfl)) pa_nil))))
      (pss_one (ps_ret (pe_cmpR op_neB (pe_chain op_lt op_lt (pv 2) (pe_ix (ix_tupK K rfl) (pv 1) pe_int (fun _ _ => rfl)) (pv 3)) (pe_chain op_lt op_lt (pv 2) (pe_ix (ix_tupK K rfl) (pv 1) pe_int (fun _ _ => rfl)) (pv 3)) (nomark _)))))), ?_⟩
  obtain ⟨a, b, rfl, ha, hb, q⟩ := h
  refine ⟨_, rfl, a.t, _, 2, _, rfl, rfl, SqT.of ha, rfl, _, rfl, a.t, _, 3, _, rfl, rfl, SqT.of ha, rfl, _, _, rfl, ?_⟩
  refine ⟨_, rfl, a.t, _, 2, _, rfl, rfl, SqT.of ha, rfl, _, rfl, a.t, _, 3, _, rfl, rfl, SqT.of ha, rfl, _, _, rfl, ?_⟩
  have key : ∀ X Y : Bool, X = inB (if (a.v.2.2.2 : Int) < a.v.2.2.1 then (a.v.2.2.2 : Int) else a.v.2.2.1) (if (a.v.2.2.2 : Int) > a.v.2.2.1 then (a.v.2.2.2 : Int) else a.v.2.2.1) b.v.2.2.1 -> Y = inB (if (a.v.2.2.2 : Int) < a.v.2.2.1 then (a.v.2.2.2 : Int) else a.v.2.2.1) (if (a.v.2.2.2 : Int) > a.v.2.2.1 then (a.v.2.2.2 : Int) else a.v.2.2.1) b.v.2.2.2 -> Q (.bl (!decide (X = Y))) H := fun X Y hX hY => by
    rw [hX, hY]
    exact q
  refine ⟨_, rfl, _, rfl, b.t, _, 2, _, rfl, rfl, SqT.of hb, rfl, _, _, rfl, rfl, _, rfl, ite2 (fun z1 => ?_) (fun z1 => ?_)⟩
  · refine ⟨_, rfl, _, _, rfl, rfl, ?_⟩
    refine ⟨_, rfl, _, rfl, b.t, _, 3, _, rfl, rfl, SqT.of hb, rfl, _, _, rfl, rfl, _, rfl, ite2 (fun z2 => ?_) (fun z2 => ?_)⟩
    · exact ⟨_, rfl, _, _, rfl, rfl, _, _, rfl, rfl, key _ _ (by unfold inB; rw [z1]; rfl) (by unfold inB; rw [z2]; rfl)⟩
    · exact ⟨_, _, rfl, rfl, key _ _ (by unfold inB; rw [z1]; rfl) (by unfold inB; rw [Bool.eq_false_iff.mpr z2]; rfl)⟩
  · refine ⟨_, rfl, _, rfl, b.t, _, 3, _, rfl, rfl, SqT.of hb, rfl, _, _, rfl, rfl, _, rfl, ite2 (fun z2 => ?_) (fun z2 => ?_)⟩
    · exact ⟨_, rfl, _, _, rfl, rfl, _, _, rfl, rfl, key _ _ (by unfold inB; rw [Bool.eq_false_iff.mpr z1]; rfl) (by unfold inB; rw [z2]; rfl)⟩
    · exact ⟨_, _, rfl, rfl, key _ _ (by unfold inB; rw [Bool.eq_false_iff.mpr z1]; rfl) (by unfold inB; rw [Bool.eq_false_iff.mpr z2]; rfl)⟩
theorem ok_meetings : FnOk P w K mg base CX0 5 f8 d8 ["yard", "drawing"] (sp_meetings K) := by
  have G_corners := ok_corners (P := P) (w := w) (base := base) T
  have G_corners_meet := ok_corners_meet (P := P) (w := w) (base := base) T
  refine T.F8.fn.ok sc_meetings (fun vs H Q E h => len_meetings h) (fun cdv A outer s H vs Q E hr h => ?_)
  refine ⟨_, (pss_cons (ps_set (i := 2) sc_meetings.nd rfl (Or.inl rfl) (pe_lst pa_nil))
      (pss_cons (ps_set (i := 3) sc_meetings.nd rfl (Or.inl rfl) (pe_call G_corners (hr.mono (by decide)) rfl T.F6.mg T.F6.fn.kp T.F6.bd .nil pass0 (pa_cons (pv 0) (pa_cons (pv 1) pa_nil))))
      (pss_cons (ps_for PassesOwn.never rfl (pi_enumL K rfl rfl T.z_enumerate (pa_cons (pv 3) pa_nil)) (pg_tupK (n := 2) K rfl rfl (pgs_cons (pg_name (i := 4) sc_meetings.nd rfl (Or.inl rfl)) (pgs_cons (pg_name (i := 5) sc_meetings.nd rfl (Or.inl rfl)) pgs_nil))) (pss_one (ps_for PassesOwn.never rfl (pi_listK K rfl (pe_slice (sl_listK K rfl) (pv 3) (po_some (pe_op op_add (pv 4) pe_int)) po_none)) (pg_name (i := 6) sc_meetings.nd rfl (Or.inl rfl)) (pss_one (ps_if (pt_val (pe_call G_corners_meet (hr.mono (by decide)) rfl T.F7.mg T.F7.fn.kp T.F7.bd .nil pass0 (pa_cons (pv 5) (pa_cons (pv 6) pa_nil)))) (pss_one (ps_expr (pe_bmK K rfl PySem.F.plainAttrs_list PySem.F.slot_list_append PySem.F.type_list_append mt_append (pv 2) (pa_cons (pe_tup (pa_cons (pe_ix (ix_tupK K rfl) (pv 5) pe_int (fun _ _ => rfl)) (pa_cons (pe_ix (ix_tupK K rfl) (pv 5) pe_int (fun _ _ => rfl)) (pa_cons (pe_ix (ix_tupK K rfl) (pv 6) pe_int (fun _ _ => rfl)) (pa_cons (pe_ix (ix_tupK K rfl) (pv 6) pe_int (fun _ _ => rfl)) pa_nil))))) pa_nil)))) pss_nil)))))
      (pss_one (ps_ret (pv 2)))))), ?_⟩
  obtain ⟨y, dr, ws, os, rfl, hy, hz, hws, hos, hd, q⟩ := h
  have hs : (100000 : Nat) < sizeLine := by decide
  have hcl := corns_len (os := os) hws
  (repeat (first | refine ⟨_, rfl, ?_⟩ | refine ⟨_, _, rfl, rfl, ?_⟩ | refine ⟨_, _, _, rfl, rfl, by first | assumption | omega, by assumption, ?_⟩ | refine ⟨rfl, ?_⟩ | refine And.intro (by first | decide | omega | assumption | exact Nat.le_of_ble_eq_true rfl | exact .inl ⟨by decide, by decide⟩ | exact .inr ⟨by decide, by decide⟩ | exact ⟨by decide, by decide⟩ | exact ⟨by omega, by omega⟩) ?_))
  intro p1 n1
  refine ⟨_, rfl, _, rfl, y, dr, ws, os, rfl, hy, hz, hws, hos, hd.same (Same.upd n1), fun p2 cs H1 n2 hp2 hcs hce s1 => ?_⟩
  have hp1 := s1 _ _ (upd_same (H := H) (a := p1) (o := HO.lst []))
  have s01 : Same H H1 := (Same.upd n1).trans s1
  have h21 : p2 ≠ p1 := fun z => by rw [z, upd_same] at n2; cases n2
  have hlen : cs.length = (corns y ws os).length := by rw [<- hce, List.length_map]
  refine ⟨_, rfl, p2, rfl, ⟨_, SqL.of hp2⟩, ?_⟩
  refine for_enumL (K := K) (a := p2) (xs := q4v cs) (fun k σ H' => ∃ (qs : List Q4) (nv ov rv : Option V), σ = [some (.str (S y)), some (.ref dr), some (.ref p1), some (.ref p2), nv, ov, rv] /\ H' p1 = some (.lst (q4v qs)) /\ (∀ x ∈ qs, Q4Ok H' x) /\ qs.map Q4.v = meetAll (corns y ws os) k /\ qs.length <= 48 * k /\ SameB p1 H1 H')
    ⟨[], none, none, none, rfl, hp1, fun _ h => absurd h List.not_mem_nil, rfl, Nat.zero_le _, SameB.refl _ _⟩ (fun k σ H' _ ⟨_, _, _, _, _, _, _, _, _, h⟩ => SqL.of (h _ _ hp2 h21)) ?_ ?_
  · rintro k x σ H2 T hx ⟨qs, nv, ov, rv, rfl, hp, hqs, hqe, hql, s2⟩ nT
    obtain ⟨a, ha, rfl⟩ := q4v_at hx
    have hk : k < cs.length := (List.getElem?_eq_some_iff.mp ha).1
    have ham := List.mem_of_getElem? ha
    have hak : (corns y ws os)[k]? = some a.v := by rw [<- hce, List.getElem?_map, ha]; rfl
    have ta := hcs a ham
    have hat1 : a.t ≠ p1 := fun z => by have h9 : H1 a.t = _ := ta; rw [z, hp1] at h9; cases h9
    have sT := Same.upd (o := .tup [.int k, .ref a.t]) nT
    have hpT := sT _ _ hp
    refine ⟨T, _, rfl, SqT.of upd_same, rfl, _, _, rfl, _, _, rfl, rfl, ?_⟩
    have hp2T := sT _ _ (s2 _ _ hp2 h21)
    refine ⟨_, rfl, _, rfl, _, _, rfl, rfl, _, rfl, p2, _, rfl, SqL.of hp2T, fun p3 n3 => ?_⟩
    have ek : ((k : Int) + 1) = ((k + 1 : Nat) : Int) := by omega
    have hcv : cutV (q4v cs) (some ((k : Int) + 1)) none = q4v (cs.drop (k + 1)) := by
      rw [ek]
      show cut (q4v cs) (some ((k + 1 : Nat) : Int)) none = _
      rw [cut_from]
      unfold q4v
      rw [List.map_drop]
    rw [hcv]
    have hrs : (cs.drop (k + 1)).map Q4.v = (corns y ws os).drop (k + 1) := by rw [List.map_drop, hce]
    have s3 := sT.trans (Same.upd (o := .lst (q4v (cs.drop (k + 1)))) n3)
    have hp3 := s3 _ _ hp
    have n3H : H2 p3 = none := Same.free sT n3
    have h31 : p3 ≠ p1 := fun z => by rw [z, hpT] at n3; cases n3
    refine ⟨p3, rfl, ⟨_, SqL.of upd_same⟩, ?_⟩
    refine for_list (K := K) (a := p3) (xs := q4v (cs.drop (k + 1))) (fun j σ H' => ∃ (us : List Q4) (rv : Option V), σ = [some (.str (S y)), some (.ref dr), some (.ref p1), some (.ref p2), some (.int k), some (.ref a.t), rv] /\ H' p1 = some (.lst (q4v us)) /\ H' p3 = some (.lst (q4v (cs.drop (k + 1)))) /\ (∀ x ∈ us, Q4Ok H' x) /\ us.map Q4.v = meetAll (corns y ws os) k ++ meetRow a.v (((corns y ws os).drop (k + 1)).take j) /\ us.length <= 48 * k + j /\ SameB p1 H1 H')
      ⟨qs, rv, rfl, hp3, upd_same, fun x hx => (hqs x hx).ts (TSame.of s3), by rw [hqe]; show _ = _ ++ []; rw [List.append_nil], by omega, s2.after s3⟩ (fun j σ H' _ ⟨_, _, _, _, h, _⟩ => SqL.of h) ?_ ?_
    · rintro j x σ H3 hx3 ⟨us, rv3, rfl, hp4, hp34, hus, hue, hul, s4⟩
      obtain ⟨b, hb, rfl⟩ := q4v_at hx3
      have hj : j < (cs.drop (k + 1)).length := (List.getElem?_eq_some_iff.mp hb).1
      rw [List.length_drop] at hj
      have hbm := List.mem_of_mem_drop (List.mem_of_getElem? hb)
      have hbk : ((corns y ws os).drop (k + 1))[j]? = some b.v := by rw [<- hrs, List.getElem?_map, hb]; rfl
      have tb := hcs b hbm
      have hbt1 : b.t ≠ p1 := fun z => by have h9 : H1 b.t = _ := tb; rw [z, hp1] at h9; cases h9
      have ta3 : Q4Ok H3 a := s4 _ _ ta hat1
      have tb3 : Q4Ok H3 b := s4 _ _ tb hbt1
      have er := meetRow_succ (x := a.v) hbk
      refine ⟨_, rfl, _, rfl, a, b, rfl, ta3, tb3, _, rfl, ite2 (fun z => ?_) (fun z => ?_)⟩
      · rw [if_pos z] at er
        refine ⟨_, rfl, .inl ⟨rfl, _, SqL.of hp4⟩, ?_⟩
        refine ⟨_, rfl, a.t, _, 0, _, rfl, rfl, SqT.of ta3, rfl, _, rfl, a.t, _, 1, _, rfl, rfl, SqT.of ta3, rfl, _, rfl, b.t, _, 0, _, rfl, rfl, SqT.of tb3, rfl, _, rfl, b.t, _, 1, _, rfl, rfl, SqT.of tb3, rfl, ?_⟩
        refine ⟨by show 4 <= sizeLine; decide, fun t nt => ?_⟩
        have st := Same.upd (o := .tup [.int a.v.1, .int a.v.2.1, .int b.v.1, .int b.v.2.1]) nt
        have hp5 := st _ _ hp4
        refine ⟨p1, _, _, rfl, rfl, hp5, by rw [q4v_len]; omega, ?_⟩
        refine ⟨us ++ [⟨t, (a.v.1, a.v.2.1, b.v.1, b.v.2.1)⟩], _, rfl, by rw [upd_same]; exact congrArg (fun x => some (HO.lst x)) (q4v_snoc us ⟨t, (a.v.1, a.v.2.1, b.v.1, b.v.2.1)⟩), by rw [upd_ne h31]; exact st _ _ hp34, fun x hx => ?_, by rw [List.map_append, hue, er, List.append_assoc]; rfl, by rw [List.length_append]; show us.length + 1 <= _; omega, fun c o e w => by rw [upd_ne w]; exact st _ _ (s4 c o e w)⟩
        rcases List.mem_append.mp hx with g | g
        · exact (hus x g).ts ((TSame.of st).trans (TSame.updL hp5))
        · have e3 := List.mem_singleton.mp g
          subst e3
          exact (TSame.updL hp5) _ _ upd_same
      · rw [if_neg z, List.append_nil] at er
        exact ⟨us, _, rfl, hp4, hp34, hus, by rw [hue, er], by omega, s4⟩
    · rintro σ H3 ⟨us, rv3, rfl, hp4, hp34, hus, hue, hul, s4⟩
      rw [q4v_len, List.length_drop] at hul
      have e5 : ((corns y ws os).drop (k + 1)).take (q4v (cs.drop (k + 1))).length = (corns y ws os).drop (k + 1) := by
        rw [q4v_len, List.length_drop, hlen, <- List.length_drop, List.take_length]
      rw [e5] at hue
      exact ⟨us, _, _, _, rfl, hp4, hus, by rw [hue, meetAll_succ hak], by omega, s4⟩
  · rintro σ H2 ⟨qs, nv, ov, rv, rfl, hp, hqs, hqe, hql, s2⟩
    rw [q4v_len, hlen] at hqe
    exact ⟨_, rfl, q p1 qs H2 n1 hp hqs hqe (fun a o ea => s2 a o (s01 a o ea) (ne_of_none ea n1))⟩
theorem ok_Ltake : FnOk P w K mg base CX0 1 f14 d14 ["_law_box_here", "_law_many"] (sp_Ltake K) := by
  refine T.F14.fn.ok sc_Ltake (fun vs H Q E h => len_Ltake h) (fun cdv A outer s H vs Q E hr h => ?_)
  refine ⟨_, (pss_cons (ps_if (pt_cmpR op_gt (pe_ix (ix_listK K rfl) (pv 0) pe_int (fun _ _ => rfl)) pe_int (nomark _)) (pss_cons (ps_set (i := 2) sc_Ltake.nd rfl (Or.inl rfl) (pe_op op_mod (pe_ix (ix_listK K rfl) (pv 0) pe_int (fun _ _ => rfl)) (pv 1)))
      (pss_cons (ps_asg (pe_op op_fdiv (pe_ix (ix_listK K rfl) (pv 0) pe_int (fun _ _ => rfl)) (pv 1)) (pg_sub (pv 0) pe_int set_list))
      (pss_one (ps_ret (pv 2))))) pss_nil)
      (pss_cons (ps_set (i := 3) sc_Ltake.nd rfl (Or.inl rfl) (pe_op op_mod (pe_op op_mul (pe_ix (ix_listK K rfl) (pv 0) pe_int (fun _ _ => rfl)) pe_int) pe_int))
      (pss_cons (ps_asg (pe_op op_add (pe_op op_mod (pe_op op_add (pe_op op_mul (pv 3) pe_int) pe_int) pe_int) pe_int) (pg_sub (pv 0) pe_int set_list))
      (pss_one (ps_ret (pe_op op_mod (pe_op op_fdiv (pe_op op_add (pe_op op_mul (pv 3) pe_int) (pe_ix (ix_listK K rfl) (pv 0) pe_int (fun _ _ => rfl))) pe_int) (pv 1))))))), ?_⟩
  obtain ⟨b, m, rfl, ⟨x, y, hb⟩, h1, h2, q⟩ := h
  have fin : ∀ (r x' y' : Int), 0 <= r -> r < m -> Q (.int r) (upd H b (.lst [.int x', .int y'])) := fun r x' y' h3 h4 => by
    have e : r = ((r.toNat : Nat) : Int) := by omega
    rw [e]
    exact q r.toNat _ (by omega) ⟨x', y', upd_same⟩ (SameB.upd b H _)
  refine ⟨_, rfl, b, _, 0, _, rfl, rfl, SqL.of hb, rfl, _, _, rfl, rfl, _, rfl, ite2 (fun e => ?_) (fun e => ?_)⟩
  · refine ⟨_, rfl, b, _, 0, _, rfl, rfl, SqL.of hb, rfl, _, rfl, _, _, rfl, rfl, (by omega : 0 < m), ?_⟩
    refine ⟨_, rfl, b, _, 0, _, rfl, rfl, SqL.of hb, rfl, _, rfl, _, _, rfl, rfl, ⟨by omega, by omega⟩, _, rfl, b, _, 0, 0, rfl, rfl, hb, rfl, _, rfl, ?_⟩
    exact fin (x % m) (x / m) y (Int.emod_nonneg _ (by omega)) (Int.emod_lt_of_pos _ (by omega))
  · refine ⟨_, rfl, b, _, 1, _, rfl, rfl, SqL.of hb, rfl, _, _, rfl, rfl, .inr ⟨by decide, by decide⟩, _, _, rfl, rfl, (by decide : (0 : Int) < 2147483647), ?_⟩
    refine ⟨_, rfl, _, _, rfl, rfl, .inr ⟨by decide, by decide⟩, _, _, rfl, rfl, _, _, rfl, rfl, (by decide : (0 : Int) < 2147483629), _, _, rfl, rfl, _, rfl, b, _, 1, 1, rfl, rfl, hb, rfl, ?_⟩
    refine ⟨_, rfl, _, _, rfl, rfl, .inr ⟨by decide, by decide⟩, _, rfl, b, _, 1, _, rfl, rfl, SqL.of upd_same, rfl, _, _, rfl, rfl, _, _, rfl, rfl, ⟨by decide, by decide⟩, _, rfl, _, _, rfl, rfl, (by omega : 0 < m), ?_⟩
    exact fin _ _ _ (Int.emod_nonneg _ (by omega)) (Int.emod_lt_of_pos _ (by omega))
theorem ok_Llater : FnOk P w K mg base CX0 1 f23 d23 ["_law_drawing_here", "_law_c"] (sp_Llater K) := by
  refine T.F23.fn.ok sc_Llater (fun vs H Q E h => len_Llater h) (fun cdv A outer s H vs Q E hr h => ?_)
  refine ⟨_, (pss_cons (ps_asg (pv 0) (pg_tupK (n := 2) K rfl rfl (pgs_cons (pg_name (i := 2) sc_Llater.nd rfl (Or.inl rfl)) (pgs_cons (pg_name (i := 3) sc_Llater.nd rfl (Or.inl rfl)) pgs_nil))))
      (pss_cons (ps_set (i := 4) sc_Llater.nd rfl (Or.inr rfl) (pe_callB call_lenS rfl T.z_len PySem.boot_len (pa_cons (pe_ix (ix_tupK K rfl) (pv 2) (pv 1) (fun _ _ => rfl)) pa_nil)))
      (pss_cons (ps_set (i := 5) sc_Llater.nd rfl (Or.inl rfl) (pe_lst pa_nil))
      (pss_cons (ps_for PassesOwn.never rfl (pi_tupK K rfl (pv 3)) (pg_name (i := 6) sc_Llater.nd rfl (Or.inl rfl)) (pss_one (ps_expr (pe_bmK K rfl PySem.F.plainAttrs_list PySem.F.slot_list_append PySem.F.type_list_append mt_append (pv 5) (pa_cons (pe_callTy (call_tuple_ofK K rfl) rfl T.z_tuple boot_tuple (pa_cons (pe_compB ["_law_d", "_law_i", "_law_many", "_law_c"] [none, none, some 4, some 1] (pi_tupK K rfl (pv 6)) ⟨⟨rfl, rfl, by first | exact .inl rfl | exact .inr rfl⟩, ⟨⟨rfl, rfl, by first | exact .inl rfl | exact .inr rfl⟩, trivial⟩⟩ (fun _ _ _ _ => (pg_tupK (n := 2) K rfl rfl (pgs_cons (pg_name (i := 0) (by decide +kernel : List.Nodup (["_law_d", "_law_i", "_law_many", "_law_c"] : List Str)) rfl (Or.inl rfl)) (pgs_cons (pg_name (i := 1) (by decide +kernel : List.Nodup (["_law_d", "_law_i", "_law_many", "_law_c"] : List Str)) rfl (Or.inl rfl)) pgs_nil)))) (fun _ _ _ _ => pf_nil) (fun _ _ _ _ => (pe_tup (pa_cons (pv 0) (pa_cons (pe_ix (ix_listK K rfl) (pe_lst (pa_cons (pv 1) (pa_cons (pe_op op_mod (pe_op op_sub (pe_op op_add (pv 1) (pv 2)) pe_int) (pe_callB (call_max2 rfl) rfl T.z_max boot_max (pa_cons pe_int (pa_cons (pv 2) pa_nil)))) pa_nil))) (pe_callTy call_int1 rfl T.z_int boot_int (pa_cons (pe_cmpR op_eqI (pv 0) (pv 3) (nomark _)) pa_nil)) (fun _ _ => rfl)) pa_nil))))) pa_nil)) pa_nil)))))
      (pss_one (ps_ret (pe_tup (pa_cons (pe_op op_catA (pe_op op_catA (pe_slice sl_tupA (pv 2) po_none (po_some (pv 1))) (pe_tup (pa_cons (pe_op op_addS (pe_slice sl_S (pe_ix (ix_tupK K rfl) (pv 2) (pv 1) (fun _ _ => rfl)) (po_some pe_int) po_none) (pe_slice sl_S (pe_ix (ix_tupK K rfl) (pv 2) (pv 1) (fun _ _ => rfl)) po_none (po_some pe_int))) pa_nil))) (pe_slice sl_tupA (pv 2) (po_some (pe_op op_add (pv 1) pe_int)) po_none)) (pa_cons (pe_callTy (call_tuple_ofK K rfl) rfl T.z_tuple boot_tuple (pa_cons (pv 5) pa_nil)) pa_nil))))))))), ?_⟩
  obtain ⟨dr, c, ws, os, rfl, hd, hc, hwf, hwl, hof, hcl, q⟩ := h
  have hs : (100000 : Nat) < sizeLine := by decide
  obtain ⟨⟨wt, ot, d1, d2, d3⟩, dO⟩ := hd
  have ew : ws.getD c [] = ws[c] := by rw [List.getD_eq_getElem?_getD, List.getElem?_eq_getElem hc]; rfl
  have hcw : ws[c]? = some (ws.getD c []) := by rw [ew]; exact List.getElem?_eq_getElem hc
  have hn : (ws.getD c []).length <= 12 := by rw [ew]; exact hwl _ (List.getElem_mem hc)
  refine ⟨_, rfl, dr, _, rfl, SqT.of d1, rfl, _, _, rfl, _, _, rfl, rfl, ?_⟩
  refine ⟨_, rfl, _, rfl, wt, _, _, _, rfl, rfl, SqT.of d2, atI_nat (txs_at2 hcw), ?_⟩
  refine ⟨_, rfl, by omega, ?_⟩
  refine ⟨by show 0 <= sizeLine; decide, fun p1 n1 => ?_⟩
  refine ⟨_, rfl, ot, rfl, ⟨_, SqT.of ((Same.upd n1) _ _ d3)⟩, ?_⟩
  have hcells : ∀ {d i : Nat}, (d, i) ∈ cells ws -> (d = c -> i < (ws.getD c []).length) /\ d < 4 /\ i < 12 := fun {d i} h => by
    obtain ⟨h1, h2⟩ := mem_cells.mp h
    replace h1 : d < ws.length := h1
    refine ⟨fun z => by rw [<- z]; exact h2, by omega, ?_⟩
    have e : ws.getD d [] = ws[d]'h1 := by rw [List.getD_eq_getElem?_getD, List.getElem?_eq_getElem h1]; rfl
    have h3 := hwl _ (List.getElem_mem h1)
    replace h2 : i < (ws.getD d []).length := h2
    rw [e] at h2
    omega
  generalize hN : (ws.getD c []).length = N at hcells hn q ⊢
  refine for_tup (K := K) (a := ot) (xs := odv os) (fun i σ H' => ∃ (ns : List Od) (av : Option V), σ = [some (.ref dr), some (.int c), some (.ref wt), some (.ref ot), some (.int N), some (.ref p1), av] /\ H' p1 = some (.lst (odv ns)) /\ (∀ o ∈ ns, OdOk H' o) /\ ns.map prs = ((os.take i).map prs).map (fun l => l.map (phi c N)) /\ Same H H')
    ⟨[], none, rfl, upd_same, fun _ h => absurd h List.not_mem_nil, rfl, Same.upd n1⟩ (fun i σ H' _ ⟨_, _, _, _, _, _, h⟩ => SqT.of (h _ _ d3)) ?_ ?_
  · rintro i x σ H1 hxi ⟨ns, av, rfl, hp1, hns, hnv, s1⟩
    obtain ⟨o, ho, rfl⟩ : ∃ o, os[i]? = some o /\ x = .ref o.o := by
      unfold odv at hxi
      rw [List.getElem?_map] at hxi
      cases e : os[i]? with
      | none => rw [e] at hxi; cases hxi
      | some p => rw [e] at hxi; cases hxi; exact ⟨p, rfl, rfl⟩
    have hom := List.mem_of_getElem? ho
    have ok := (dO o hom).same s1
    refine ⟨_, rfl, .inl ⟨rfl, _, SqL.of hp1⟩, _, rfl, o.o, rfl, ⟨_, SqT.of ok.tp⟩, ?_⟩
    refine comp_tup (K := K) (a := o.o) (xs := prv o.ps) (fun m acc H' => Same H1 H' /\ ∃ vs : List Pr, acc = prv vs /\ (∀ p ∈ vs, PrOk H' p) /\ vs.map Pr.pair = ((o.ps.take m).map Pr.pair).map (phi c N)) (by rw [prv_len]; have := ok.fw; omega) (fun m acc H' h => SqT.of (h.1 _ _ ok.tp)) ⟨Same.refl _, [], rfl, fun _ h => absurd h List.not_mem_nil, rfl⟩ ?_ ?_
    · rintro m x acc H2 Nx hm hxm hal ⟨s2, vs, rfl, hvs, hve⟩ nx
      obtain ⟨p, hp, rfl⟩ := prv_at hxm
      have hpm := List.mem_of_getElem? hp
      obtain ⟨hde, hd4, hi12⟩ := hcells (hcl o hom p hpm)
      refine ⟨p.t, _, rfl, SqT.of (s2 _ _ (ok.pr p hpm).tp), rfl, _, _, rfl, _, _, rfl, rfl, ⟨rfl, rfl, trivial⟩, yes_ite ?_⟩
      refine ⟨_, rfl, _, rfl, _, rfl, _, rfl, _, _, rfl, rfl, _, _, rfl, rfl, _, rfl, _, _, rfl, _, _, rfl, rfl, ?_, ?_⟩
      · show (0 : Int) < if (N : Int) > 1 then (N : Int) else 1
        split <;> omega
      refine ⟨by show 2 <= sizeLine; decide, fun p4 n4 => ?_⟩
      refine ⟨_, rfl, _, rfl, _, _, rfl, rfl, .inr ⟨_, rfl, p4, _, _, _, rfl, rfl, SqL.of upd_same, pick_phi hde, ?_⟩⟩
      refine ⟨by show 2 <= sizeLine; decide, fun p5 n5 => ?_⟩
      have s7 := (Same.upd n4).trans (Same.upd (o := HO.tup [.int p.c, .int ((phi c N (p.c, p.i)).2 : Nat)]) n5)
      refine nx _ _ (by simpa using hal) ⟨s2.trans s7, vs ++ [⟨p5, p.c, (phi c N (p.c, p.i)).2⟩], prv_snoc vs ⟨p5, p.c, (phi c N (p.c, p.i)).2⟩, fun r hr => ?_, ?_⟩
      · rcases List.mem_append.mp hr with g | g
        · exact (hvs r g).same s7
        · have := List.mem_singleton.mp g
          subst this
          have := phi_small hde (show N <= 12 by omega) hi12
          exact ⟨upd_same, by show p.c < 1000; omega, by show (phi c N (p.c, p.i)).2 < 1000; omega⟩
      · rw [List.map_append, hve, <- take_snoc hp, List.map_append, List.map_append]
        rfl
    · rintro acc H2 D hal ⟨s2, vs, rfl, hvs, hve⟩ hD
      rw [prv_len, List.take_length] at hve
      refine ⟨D, _, rfl, .inl ⟨SqL.of upd_same, fun tp ntp => ?_⟩⟩
      have s3 := (Same.upd (o := HO.lst (prv vs)) hD).trans (Same.upd (o := HO.tup (prv vs)) ntp)
      have htp := upd_same (H := upd H2 D (HO.lst (prv vs))) (a := tp) (o := HO.tup (prv vs))
      generalize upd (upd H2 D (HO.lst (prv vs))) tp (HO.tup (prv vs)) = H3 at s3 htp ⊢
      have s13 := s2.trans s3
      have hp13 := s13 _ _ hp1
      have hln : ns.length <= 100 := by
        have h := congrArg List.length hnv
        rw [List.length_map, List.length_map, List.length_map, List.length_take] at h
        omega
      have hlv : vs.length = o.ps.length := by
        have h := congrArg List.length hve
        rwa [List.length_map, List.length_map, List.length_map] at h
      refine ⟨p1, _, _, rfl, rfl, hp13, by rw [odv_len]; omega, ?_⟩
      have tU := TSame.updL (o := HO.lst (odv ns ++ [.ref tp])) hp13
      refine ⟨ns ++ [⟨tp, vs⟩], _, rfl, by rw [upd_same]; exact congrArg (fun x => some (HO.lst x)) (odv_snoc ns ⟨tp, vs⟩), fun r hr => ?_, ?_, fun a o ea => by rw [upd_ne (ne_of_none ea n1)]; exact s13 _ _ (s1 a o ea)⟩
      · rcases List.mem_append.mp hr with g | g
        · exact ((hns r g).same s13).ts tU
        · have := List.mem_singleton.mp g
          subst this
          exact ⟨tU _ _ htp, fun p hp => ((hvs p hp).same s3).ts tU, by show vs.length <= 100; rw [hlv]; exact ok.fw⟩
      · rw [List.map_append, hnv, <- take_snoc ho, List.map_append, List.map_append]
        show _ ++ [vs.map Pr.pair] = _
        rw [hve]
        rfl
  · rintro σ H1 ⟨ns, av, rfl, hp1, hns, hnv, s1⟩
    rw [odv_len, List.take_length] at hnv
    have hwt := s1 _ _ d2
    refine ⟨_, rfl, _, rfl, _, rfl, wt, _, rfl, hwt, fun a1 H2 k2 h2 => ?_⟩
    refine ⟨_, rfl, _, rfl, wt, _, _, _, rfl, rfl, SqT.of (k2 _ _ hwt), atI_nat (txs_at2 hcw), 1, rfl, _, rfl, by omega, ?_⟩
    refine ⟨_, rfl, _, rfl, wt, _, _, _, rfl, rfl, SqT.of (k2 _ _ hwt), atI_nat (txs_at2 hcw), 1, rfl, _, rfl, by omega, ?_⟩
    have hl1 := cut_len (ws.getD c []) (some 1) none
    have hl2 := cut_len (ws.getD c []) none (some 1)
    refine ⟨_, _, rfl, rfl, by omega, ?_⟩
    rw [rot1_cut]
    refine ⟨by show 1 <= sizeLine; decide, fun a2 na2 => ?_⟩
    have s3 := Same.upd (o := HO.tup [.str (S (rot1 (ws.getD c [])))]) na2
    have h3 := upd_same (H := H2) (a := a2) (o := HO.tup [.str (S (rot1 (ws.getD c [])))])
    generalize upd H2 a2 (HO.tup [.str (S (rot1 (ws.getD c [])))]) = H3 at s3 h3 ⊢
    have lc1 := cutV_length (txs ws) none (some (c : Int))
    have lc2 := cutV_length (txs ws) (some ((c : Int) + 1)) none
    rw [txs_len] at lc1 lc2
    refine ⟨a1, a2, _, _, rfl, rfl, s3 _ _ h2, h3, by show _ + 1 <= _; omega, fun a3 H4 k4 h4 => ?_⟩
    refine ⟨_, rfl, _, rfl, _, _, rfl, rfl, _, rfl, wt, _, rfl, k4 _ _ (s3 _ _ (k2 _ _ hwt)), fun a4 H5 k5 h5 => ?_⟩
    refine ⟨a3, a4, _, _, rfl, rfl, k5 _ _ h4, h5, by rw [List.length_append]; show _ + 1 + _ <= _; omega, fun a5 H6 k6 h6 => ?_⟩
    rw [txs_put hc] at h6
    have s16 : Same H1 H6 := fun x o e => k6 _ _ (k5 _ _ (k4 _ _ (s3 _ _ (k2 _ _ e))))
    refine ⟨_, rfl, p1, _, rfl, .inl ⟨SqL.of (s16 _ _ hp1), fun a6 na6 => ?_⟩⟩
    refine ⟨by show 2 <= sizeLine; decide, fun a7 na7 => ?_⟩
    have s68 := (Same.upd (o := HO.tup (odv ns)) na6).trans (Same.upd (o := HO.tup [.ref a5, .ref a6]) na7)
    have h67 : upd H6 a6 (HO.tup (odv ns)) a6 = some (HO.tup (odv ns)) := upd_same
    exact q a7 ns _ ⟨⟨a5, a6, upd_same, s68 _ _ h6, (Same.upd (o := HO.tup [.ref a5, .ref a6]) na7) _ _ h67⟩, fun o ho => ((hns o ho).same s16).same s68⟩ hnv ((s1.trans s16).trans s68)
theorem ok_Lother : FnOk P w K mg base CX0 1 f15 d15 ["_law_letter"] (sp_Lother K) := by
  refine T.F15.fn.ok sc_Lother (fun vs H Q E h => len_Lother h) (fun cdv A outer s H vs Q E hr h => ?_)
  refine ⟨_, (pss_cons (ps_set (i := 1) sc_Lother.nd rfl (Or.inl rfl) (pe_S [97, 98, 99, 100, 101, 102, 103, 104, 105, 106, 107, 108, 109, 110, 111, 112, 113, 114, 115, 116, 117, 118, 119, 120, 121, 122] (by decide +kernel)))
      (pss_cons (ps_set (i := 2) sc_Lother.nd rfl (Or.inl rfl) (pe_S [65, 66, 67, 68, 69, 70, 71, 72, 73, 74, 75, 76, 77, 78, 79, 80, 81, 82, 83, 84, 85, 86, 87, 88, 89, 90] (by decide +kernel)))
      (pss_cons (ps_if (pt_cmpR op_inS (pv 0) (pv 1) (by with_unfolding_all rfl)) (pss_one (ps_ret (pe_ix ix_S (pv 2) (pe_bmK K rfl PySem.F.plainAttrs_str PySem.F.slot_str_index PySem.F.type_str_index mt_indexS (pv 1) (pa_cons (pv 0) pa_nil)) (fun _ _ => rfl)))) pss_nil)
      (pss_one (ps_ret (pe_ix ix_S (pv 1) (pe_bmK K rfl PySem.F.plainAttrs_str PySem.F.slot_str_index PySem.F.type_str_index mt_indexS (pv 2) (pa_cons (pv 0) pa_nil)) (fun _ _ => rfl))))))), ?_⟩
  obtain ⟨c, rfl, hc, q⟩ := h
  refine ⟨_, rfl, _, rfl, c, smalls, rfl, rfl, _, rfl, ite2 (fun e => ?_) (fun e => ?_)⟩
  · have hm : c ∈ smalls := of_decide_eq_true e
    exact ⟨_, rfl, _, rfl, rfl, _, rfl, smalls, c, rfl, rfl, hm, caps, _, ctr c, rfl, rfl, by decide, other_small c hm, q⟩
  · have hm : c ∈ caps := hc.resolve_left fun z => e (decide_eq_true z)
    exact ⟨_, rfl, _, rfl, rfl, _, rfl, caps, c, rfl, rfl, hm, smalls, _, ctr c, rfl, rfl, by decide, other_cap c hm, q⟩
theorem ok_Lexchanged : FnOk P w K mg base CX0 2 f22 d22 ["_law_text", "_law_band"] (sp_Lexchanged K) := by
  have G_Lother := ok_Lother (P := P) (w := w) (base := base) T
  refine T.F22.fn.ok sc_Lexchanged (fun vs H Q E h => len_Lexchanged h) (fun cdv A outer s H vs Q E hr h => ?_)
  refine ⟨_, (pss_one (ps_ret (pe_bmK K rfl PySem.F.plainAttrs_str PySem.F.slot_str_join PySem.F.type_str_join (mt_joinK K rfl) (pe_S [] (by decide +kernel)) (pa_cons (pe_compB ["_law_letter", "_law_band"] [none, some 1] (pi_str (pv 0)) ⟨⟨rfl, rfl, by first | exact .inl rfl | exact .inr rfl⟩, trivial⟩ (fun _ _ _ _ => (pg_name (i := 0) (by decide +kernel : List.Nodup (["_law_letter", "_law_band"] : List Str)) rfl (Or.inl rfl))) (fun _ _ _ _ => pf_nil) (fun _ _ _ _ => (pe_ix (ix_listK K rfl) (pe_lst (pa_cons (pv 0) (pa_cons (pe_call G_Lother (hr.mono (by decide)) rfl T.F15.mg T.F15.fn.kp T.F15.bd .nil pass0 (pa_cons (pv 0) pa_nil)) pa_nil))) (pe_callTy call_int1 rfl T.z_int boot_int (pa_cons (pe_cmpR (op_inK K rfl) (pv 0) (pe_tup (pa_cons (pv 1) (pa_cons (pe_call G_Lother (hr.mono (by decide)) rfl T.F15.mg T.F15.fn.kp T.F15.bd .nil pass0 (pa_cons (pv 1) pa_nil)) pa_nil))) (by with_unfolding_all rfl)) pa_nil)) (fun _ _ => rfl)))) pa_nil)))), ?_⟩
  obtain ⟨l, b, rfl, hl, hz, hb, q⟩ := h
  have hs : (100000 : Nat) < sizeLine := by decide
  refine ⟨rfl, _, rfl, l, rfl, ?_⟩
  refine comp_fix (xs := sgs l) (fun i acc H' => Same H H' /\ acc = sgs ((l.take i).map (exch b))) (by rw [sgs_len]; omega) ⟨Same.refl H, rfl⟩ ?_ ?_
  · rintro i x acc H1 Nx hi hx hal ⟨s1, rfl⟩ nx
    obtain ⟨c, hc, rfl⟩ := sgs_get hx
    have hcl := hl c (List.mem_of_getElem? hc)
    refine ⟨⟨rfl, trivial⟩, yes_ite ?_⟩
    refine ⟨_, rfl, _, rfl, c, rfl, hcl, by show 2 <= sizeLine; decide, fun p1 n1 => ?_⟩
    have s2 := s1.trans (Same.upd (o := .lst [.str (S [c]), .str (S [ctr c])]) n1)
    have hp1 : upd H1 p1 (HO.lst [.str (S [c]), .str (S [ctr c])]) p1 = some (HO.lst [.str (S [c]), .str (S [ctr c])]) := upd_same
    generalize upd H1 p1 (HO.lst [.str (S [c]), .str (S [ctr c])]) = H2 at s2 hp1 ⊢
    refine ⟨_, rfl, _, rfl, _, rfl, b, rfl, hb, by show 2 <= sizeLine; decide, fun t nt => ?_⟩
    have s3 := s2.trans (Same.upd (o := .tup [.str (S [b]), .str (S [ctr b])]) nt)
    have hp3 := (Same.upd (o := .tup [.str (S [b]), .str (S [ctr b])]) nt) _ _ hp1
    refine ⟨t, _, rfl, .inr (SqT.of upd_same), rfl, rfl, ?_⟩
    rw [inV_two]
    refine .inr ⟨_, rfl, p1, _, _, .str (S [exch b c]), rfl, rfl, SqL.of hp3, ?_, ?_⟩
    · show atI [V.str (S [c]), V.str (S [ctr c])] (if onB b c = true then 1 else 0) = some (V.str (S [exch b c]))
      unfold exch
      by_cases z : onB b c = true
      · rw [if_pos z, if_pos z]
        exact atI_nat (j := 1) rfl
      · rw [if_neg z, if_neg z]
        exact atI_nat (j := 0) rfl
    · refine nx _ _ (by simpa using hal) ⟨s3, ?_⟩
      rw [<- take_snoc hc, List.map_append]
      exact sgs_snoc _ _
  · rintro acc H1 D hal ⟨s1, rfl⟩ hD
    rw [sgs_len, List.take_length, sgs_lists]
    refine ⟨D, (l.map (exch b)).map fun c => [c], rfl, rfl, SqL.of upd_same, by rw [sum1, List.length_map]; omega, ?_⟩
    rw [flat1]
    exact q _ (s1.trans (Same.upd hD))
theorem ok_Lorder : FnOk P w K mg base CX0 2 f18 d18 ["_law_box_here", "_law_things"] (sp_Lorder K) := by
  have G_Ltake := ok_Ltake (P := P) (w := w) (base := base) T
  refine T.F18.fn.ok sc_Lorder (fun vs H Q E h => len_Lorder h) (fun cdv A outer s H vs Q E hr h => ?_)
  refine ⟨_, (pss_cons (ps_set (i := 2) sc_Lorder.nd rfl (Or.inl rfl) (pe_callTy (call_listAny K rfl rfl) rfl T.z_list boot_list (pa_cons (pv 1) pa_nil)))
      (pss_cons (ps_set (i := 3) sc_Lorder.nd rfl (Or.inl rfl) (pe_lst pa_nil))
      (pss_cons (ps_whileN PassesOwn.never (pt_cmpR op_gt (pe_callB (call_len_seqK K rfl) rfl T.z_len PySem.boot_len (pa_cons (pv 2) pa_nil)) pe_int (nomark _)) (pss_one (ps_expr (pe_bmK K rfl PySem.F.plainAttrs_list PySem.F.slot_list_append PySem.F.type_list_append mt_append (pv 3) (pa_cons (pe_bmK K rfl PySem.F.plainAttrs_list PySem.F.slot_list_pop PySem.F.type_list_pop mt_popAt (pv 2) (pa_cons (pe_call G_Ltake (hr.mono (by decide)) rfl T.F14.mg T.F14.fn.kp T.F14.bd .nil pass0 (pa_cons (pv 0) (pa_cons (pe_callB (call_len_seqK K rfl) rfl T.z_len PySem.boot_len (pa_cons (pv 2) pa_nil)) pa_nil))) pa_nil)) pa_nil)))))
      (pss_one (ps_ret (pv 3)))))), ?_⟩
  obtain ⟨b, x, ys, rfl, hb, hx, hz, q⟩ := h
  have hs : (100000 : Nat) < sizeLine := by decide
  rcases hx with ⟨p, rfl, hp⟩ | ⟨l, rfl, rfl⟩
  · refine ⟨_, rfl, .inr ⟨p, _, rfl, hp, fun p1 n1 => ?_⟩⟩
    (repeat (first | refine ⟨_, rfl, ?_⟩ | refine ⟨_, _, rfl, rfl, ?_⟩ | refine ⟨_, _, _, rfl, rfl, by first | assumption | omega, by assumption, ?_⟩ | refine ⟨rfl, ?_⟩ | refine And.intro (by first | decide | omega | assumption | exact Nat.le_of_ble_eq_true rfl | exact .inl ⟨by decide, by decide⟩ | exact .inr ⟨by decide, by decide⟩ | exact ⟨by decide, by decide⟩ | exact ⟨by omega, by omega⟩) ?_))
    intro p2 n2
    have s1 : Same H (upd (upd H p1 (.lst ys)) p2 (.lst [])) := (Same.upd n1).trans (Same.upd n2)
    have bp1 : p1 ≠ b := hb.ne n1
    have np2 : H p2 = none := Same.free (Same.upd n1) n2
    have bp2 : p2 ≠ b := hb.ne np2
    have p12 : p1 ≠ p2 := fun z => by rw [<- z, upd_same] at n2; cases n2
    refine ⟨fun m σ H' => ∃ F E' : List V, σ = [some (.ref b), some (.ref p), some (.ref p1), some (.ref p2)] /\ m = E'.length /\ (F ++ E').Perm ys /\ H' p1 = some (.lst E') /\ H' p2 = some (.lst F) /\ BoxAt H' b /\ SameB b H H', ⟨_, [], ys, rfl, rfl, List.Perm.refl _, by rw [upd_ne p12, upd_same], upd_same, hb.same s1, SameB.of s1⟩, ?_⟩
    rintro m σ H3 ⟨F, E', rfl, rfl, hpm, hp1, hp2, hb3, s4⟩
    have hlen := hpm.length_eq
    rw [List.length_append] at hlen
    (repeat (first | refine ⟨_, rfl, ?_⟩ | refine ⟨_, _, rfl, rfl, ?_⟩ | refine ⟨_, _, _, rfl, rfl, by first | assumption | omega, by assumption, ?_⟩ | refine ⟨rfl, ?_⟩ | refine And.intro (by first | decide | omega | assumption | exact Nat.le_of_ble_eq_true rfl | exact .inl ⟨by decide, by decide⟩ | exact .inr ⟨by decide, by decide⟩ | exact ⟨by decide, by decide⟩ | exact ⟨by omega, by omega⟩) ?_))
    refine ⟨p1, _, rfl, .inl (SqL.of hp1), _, _, rfl, rfl, _, rfl, ite2 (fun e => ?_) (fun e => ?_)⟩
    · have e' : (0 : Int) < (E'.length : Nat) := of_decide_eq_true e
      refine ⟨_, rfl, .inl ⟨rfl, _, SqL.of hp2⟩, _, rfl, .inl ⟨rfl, _, SqL.of hp1⟩, ?_⟩
      (repeat (first | refine ⟨_, rfl, ?_⟩ | refine ⟨_, _, rfl, rfl, ?_⟩ | refine ⟨_, _, _, rfl, rfl, by first | assumption | omega, by assumption, ?_⟩ | refine ⟨rfl, ?_⟩ | refine And.intro (by first | decide | omega | assumption | exact Nat.le_of_ble_eq_true rfl | exact .inl ⟨by decide, by decide⟩ | exact .inr ⟨by decide, by decide⟩ | exact ⟨by decide, by decide⟩ | exact ⟨by omega, by omega⟩) ?_))
      refine ⟨p1, _, rfl, .inl (SqL.of hp1), b, _, rfl, hb3, by omega, by omega, fun r H4 hr4 hb4 s5 => ?_⟩
      have hr5 : r < E'.length := by omega
      refine ⟨p1, _, _, r, _, rfl, rfl, s5 _ _ hp1 bp1, by omega, by omega, by rw [seqIndex_of (by omega) (by omega), Int.toNat_natCast], List.getElem?_eq_getElem hr5, ?_⟩
      have hpe := erase_perm (List.getElem?_eq_getElem hr5)
      have hpl := hpe.length_eq
      rw [List.length_cons] at hpl
      refine ⟨p2, _, _, rfl, rfl, by rw [upd_ne (Ne.symm p12)]; exact s5 _ _ hp2 bp2, by omega, ?_⟩
      refine ⟨(E'.eraseIdx r).length, by omega, F ++ [E'[r]], E'.eraseIdx r, rfl, rfl, ?_, by rw [upd_ne p12, upd_same], upd_same, (hb4.updN bp1).updN bp2, ((s4.trans s5).updN n1).updN np2⟩
      rw [List.append_assoc]
      exact (List.Perm.append_left F hpe).trans hpm
    · have e' : E' = [] := by
        cases E' with
        | nil => rfl
        | cons c r => exact absurd (decide_eq_true (by show (0 : Int) < ((r.length + 1 : Nat) : Int); omega)) e
      subst e'
      rw [List.append_nil] at hpm
      exact ⟨_, rfl, q p2 F H3 np2 bp2 hp2 hpm hb3 s4⟩
  · rw [sgs_len] at hz
    refine ⟨_, rfl, .inl ⟨l, rfl, by omega, fun p1 n1 => ?_⟩⟩
    rw [<- sgs_len l] at hz
    generalize sgs l = ys at *
    (repeat (first | refine ⟨_, rfl, ?_⟩ | refine ⟨_, _, rfl, rfl, ?_⟩ | refine ⟨_, _, _, rfl, rfl, by first | assumption | omega, by assumption, ?_⟩ | refine ⟨rfl, ?_⟩ | refine And.intro (by first | decide | omega | assumption | exact Nat.le_of_ble_eq_true rfl | exact .inl ⟨by decide, by decide⟩ | exact .inr ⟨by decide, by decide⟩ | exact ⟨by decide, by decide⟩ | exact ⟨by omega, by omega⟩) ?_))
    intro p2 n2
    have s1 : Same H (upd (upd H p1 (.lst ys)) p2 (.lst [])) := (Same.upd n1).trans (Same.upd n2)
    have bp1 : p1 ≠ b := hb.ne n1
    have np2 : H p2 = none := Same.free (Same.upd n1) n2
    have bp2 : p2 ≠ b := hb.ne np2
    have p12 : p1 ≠ p2 := fun z => by rw [<- z, upd_same] at n2; cases n2
    refine ⟨fun m σ H' => ∃ F E' : List V, σ = [some (.ref b), some (.str (S l)), some (.ref p1), some (.ref p2)] /\ m = E'.length /\ (F ++ E').Perm ys /\ H' p1 = some (.lst E') /\ H' p2 = some (.lst F) /\ BoxAt H' b /\ SameB b H H', ⟨_, [], ys, rfl, rfl, List.Perm.refl _, by rw [upd_ne p12, upd_same], upd_same, hb.same s1, SameB.of s1⟩, ?_⟩
    rintro m σ H3 ⟨F, E', rfl, rfl, hpm, hp1, hp2, hb3, s4⟩
    have hlen := hpm.length_eq
    rw [List.length_append] at hlen
    (repeat (first | refine ⟨_, rfl, ?_⟩ | refine ⟨_, _, rfl, rfl, ?_⟩ | refine ⟨_, _, _, rfl, rfl, by first | assumption | omega, by assumption, ?_⟩ | refine ⟨rfl, ?_⟩ | refine And.intro (by first | decide | omega | assumption | exact Nat.le_of_ble_eq_true rfl | exact .inl ⟨by decide, by decide⟩ | exact .inr ⟨by decide, by decide⟩ | exact ⟨by decide, by decide⟩ | exact ⟨by omega, by omega⟩) ?_))
    refine ⟨p1, _, rfl, .inl (SqL.of hp1), _, _, rfl, rfl, _, rfl, ite2 (fun e => ?_) (fun e => ?_)⟩
    · have e' : (0 : Int) < (E'.length : Nat) := of_decide_eq_true e
      refine ⟨_, rfl, .inl ⟨rfl, _, SqL.of hp2⟩, _, rfl, .inl ⟨rfl, _, SqL.of hp1⟩, ?_⟩
      (repeat (first | refine ⟨_, rfl, ?_⟩ | refine ⟨_, _, rfl, rfl, ?_⟩ | refine ⟨_, _, _, rfl, rfl, by first | assumption | omega, by assumption, ?_⟩ | refine ⟨rfl, ?_⟩ | refine And.intro (by first | decide | omega | assumption | exact Nat.le_of_ble_eq_true rfl | exact .inl ⟨by decide, by decide⟩ | exact .inr ⟨by decide, by decide⟩ | exact ⟨by decide, by decide⟩ | exact ⟨by omega, by omega⟩) ?_))
      refine ⟨p1, _, rfl, .inl (SqL.of hp1), b, _, rfl, hb3, by omega, by omega, fun r H4 hr4 hb4 s5 => ?_⟩
      have hr5 : r < E'.length := by omega
      refine ⟨p1, _, _, r, _, rfl, rfl, s5 _ _ hp1 bp1, by omega, by omega, by rw [seqIndex_of (by omega) (by omega), Int.toNat_natCast], List.getElem?_eq_getElem hr5, ?_⟩
      have hpe := erase_perm (List.getElem?_eq_getElem hr5)
      have hpl := hpe.length_eq
      rw [List.length_cons] at hpl
      refine ⟨p2, _, _, rfl, rfl, by rw [upd_ne (Ne.symm p12)]; exact s5 _ _ hp2 bp2, by omega, ?_⟩
      refine ⟨(E'.eraseIdx r).length, by omega, F ++ [E'[r]], E'.eraseIdx r, rfl, rfl, ?_, by rw [upd_ne p12, upd_same], upd_same, (hb4.updN bp1).updN bp2, ((s4.trans s5).updN n1).updN np2⟩
      rw [List.append_assoc]
      exact (List.Perm.append_left F hpe).trans hpm
    · have e' : E' = [] := by
        cases E' with
        | nil => rfl
        | cons c r => exact absurd (decide_eq_true (by show (0 : Int) < ((r.length + 1 : Nat) : Int); omega)) e
      subst e'
      rw [List.append_nil] at hpm
      exact ⟨_, rfl, q p2 F H3 np2 bp2 hp2 hpm hb3 s4⟩
theorem ok_Lbox : FnOk P w K mg base CX0 1 f13 d13 ["_law_script", "_law_k"] (sp_Lbox K) := by
  refine T.F13.fn.ok sc_Lbox (fun vs H Q E h => len_Lbox h) (fun cdv A outer s H vs Q E hr h => ?_)
  refine ⟨_, (pss_cons (ps_set (i := 2) sc_Lbox.nd rfl (Or.inl rfl) (pe_op op_add (pe_op op_mul pe_int (pv 1)) pe_int))
      (pss_cons (ps_if (pt_cmpR op_lt (pv 1) (pe_callB (call_len_seqK K rfl) rfl T.z_len PySem.boot_len (pa_cons (pv 0) pa_nil)) (nomark _)) (pss_one (ps_set (i := 2) sc_Lbox.nd rfl (Or.inl rfl) (pe_ix (ix_listK K rfl) (pv 0) (pv 1) (fun _ _ => rfl)))) (pss_one (ps_if (pt_cmpR op_gt (pe_callB (call_len_seqK K rfl) rfl T.z_len PySem.boot_len (pa_cons (pv 0) pa_nil)) pe_int (nomark _)) (pss_one (ps_set (i := 2) sc_Lbox.nd rfl (Or.inl rfl) (pe_op op_add (pv 2) (pe_op op_mul (pe_op op_mod (pe_ix (ix_listK K rfl) (pv 0) (pe_op op_mod (pv 1) (pe_callB (call_len_seqK K rfl) rfl T.z_len PySem.boot_len (pa_cons (pv 0) pa_nil))) (fun _ _ => rfl)) pe_int) pe_int)))) pss_nil)))
      (pss_cons (ps_set (i := 3) sc_Lbox.nd rfl (Or.inl rfl) (pe_op op_mod (pe_op op_pow (pe_op op_add (pe_op op_add (pe_op op_mod (pv 2) pe_int) (pe_op op_mul pe_int (pv 1))) pe_int) pe_int) pe_int))
      (pss_one (ps_ret (pe_lst (pa_cons (pe_ix (ix_listK K rfl) (pe_lst (pa_cons pe_int (pa_cons (pv 2) pa_nil))) (pe_callTy call_int1 rfl T.z_int boot_int (pa_cons (pe_cmpR op_ge (pv 2) (pe_op op_pow pe_int pe_int) (nomark _)) pa_nil)) (fun _ _ => rfl)) (pa_cons (pe_op op_add (pe_op op_mod (pv 3) pe_int) pe_int) pa_nil)))))))), ?_⟩
  obtain ⟨a, ns, k, rfl, hS, hk, q⟩ := h
  have hp : (0 : Int) < 2147483629 := by decide
  (repeat (first | refine ⟨_, rfl, ?_⟩ | refine ⟨_, _, rfl, rfl, ?_⟩ | refine ⟨rfl, ?_⟩ | refine And.intro (by first | decide | omega | assumption | exact Nat.le_of_ble_eq_true rfl | exact .inl ⟨by decide, by decide⟩ | exact .inr ⟨by decide, by decide⟩ | exact ⟨by decide, by decide⟩ | exact ⟨by omega, by omega⟩) ?_))
  refine ⟨a, _, rfl, .inl hS, ?_⟩
  (repeat (first | refine ⟨_, rfl, ?_⟩ | refine ⟨_, _, rfl, rfl, ?_⟩ | refine ⟨rfl, ?_⟩ | refine And.intro (by first | decide | omega | assumption | exact Nat.le_of_ble_eq_true rfl | exact .inl ⟨by decide, by decide⟩ | exact .inr ⟨by decide, by decide⟩ | exact ⟨by decide, by decide⟩ | exact ⟨by omega, by omega⟩) ?_))
  refine ite2 (fun e => ?_) (fun e => ?_)
  · have e' : (k : Int) < ((ns.map V.int).length : Nat) := of_decide_eq_true e
    rw [List.length_map] at e'
    obtain ⟨z, hz⟩ := ints_at (ns := ns) (i := k) (by omega)
    (repeat (first | refine ⟨_, rfl, ?_⟩ | refine ⟨_, _, rfl, rfl, ?_⟩ | refine ⟨rfl, ?_⟩ | refine And.intro (by first | decide | omega | assumption | exact Nat.le_of_ble_eq_true rfl | exact .inl ⟨by decide, by decide⟩ | exact .inr ⟨by decide, by decide⟩ | exact ⟨by decide, by decide⟩ | exact ⟨by omega, by omega⟩) ?_))
    refine ⟨a, _, k, _, rfl, rfl, hS, atI_nat hz, ?_⟩
    (repeat (first | refine ⟨_, rfl, ?_⟩ | refine ⟨_, _, rfl, rfl, ?_⟩ | refine ⟨rfl, ?_⟩ | refine And.intro (by first | decide | omega | assumption | exact Nat.le_of_ble_eq_true rfl | exact .inl ⟨by decide, by decide⟩ | exact .inr ⟨by decide, by decide⟩ | exact ⟨by decide, by decide⟩ | exact ⟨by omega, by omega⟩) ?_))
    refine fun p1 n1 => ?_
    (repeat (first | refine ⟨_, rfl, ?_⟩ | refine ⟨_, _, rfl, rfl, ?_⟩ | refine ⟨rfl, ?_⟩ | refine And.intro (by first | decide | omega | assumption | exact Nat.le_of_ble_eq_true rfl | exact .inl ⟨by decide, by decide⟩ | exact .inr ⟨by decide, by decide⟩ | exact ⟨by decide, by decide⟩ | exact ⟨by omega, by omega⟩) ?_))
    refine .inr ⟨_, rfl, ?_⟩
    obtain ⟨y, hy⟩ := box_at _ z
    refine ⟨p1, _, _, _, rfl, rfl, SqL.of upd_same, hy, ?_⟩
    (repeat (first | refine ⟨_, rfl, ?_⟩ | refine ⟨_, _, rfl, rfl, ?_⟩ | refine ⟨rfl, ?_⟩ | refine And.intro (by first | decide | omega | assumption | exact Nat.le_of_ble_eq_true rfl | exact .inl ⟨by decide, by decide⟩ | exact .inr ⟨by decide, by decide⟩ | exact ⟨by decide, by decide⟩ | exact ⟨by omega, by omega⟩) ?_))
    exact fun p2 n2 => q p2 _ (Same.free (Same.upd n1) n2) ⟨_, _, upd_same⟩ ((Same.upd n1).trans (Same.upd n2))
  · (repeat (first | refine ⟨_, rfl, ?_⟩ | refine ⟨_, _, rfl, rfl, ?_⟩ | refine ⟨rfl, ?_⟩ | refine And.intro (by first | decide | omega | assumption | exact Nat.le_of_ble_eq_true rfl | exact .inl ⟨by decide, by decide⟩ | exact .inr ⟨by decide, by decide⟩ | exact ⟨by decide, by decide⟩ | exact ⟨by omega, by omega⟩) ?_))
    refine ⟨a, _, rfl, .inl hS, ?_⟩
    (repeat (first | refine ⟨_, rfl, ?_⟩ | refine ⟨_, _, rfl, rfl, ?_⟩ | refine ⟨rfl, ?_⟩ | refine And.intro (by first | decide | omega | assumption | exact Nat.le_of_ble_eq_true rfl | exact .inl ⟨by decide, by decide⟩ | exact .inr ⟨by decide, by decide⟩ | exact ⟨by decide, by decide⟩ | exact ⟨by omega, by omega⟩) ?_))
    refine ite2 (fun e2 => ?_) (fun e2 => ?_)
    · have e' : (0 : Int) < ((ns.map V.int).length : Nat) := of_decide_eq_true e2
      have hl : (0 : Int) < (ns.length : Int) := by rw [List.length_map] at e'; exact e'
      have m1 : 0 <= (k : Int) % (ns.length : Int) := Int.emod_nonneg _ (by omega)
      have m2 : (k : Int) % (ns.length : Int) < (ns.length : Int) := Int.emod_lt_of_pos _ hl
      obtain ⟨z, hz⟩ := ints_at (ns := ns) (i := ((k : Int) % (ns.length : Int)).toNat) (by omega)
      have hz' : atI (ns.map V.int) ((k : Int) % ((ns.map V.int).length : Nat)) = some (V.int z) := by
        have := atI_nat hz
        rw [Int.toNat_of_nonneg m1] at this
        rw [List.length_map]
        exact this
      (repeat (first | refine ⟨_, rfl, ?_⟩ | refine ⟨_, _, rfl, rfl, ?_⟩ | refine ⟨rfl, ?_⟩ | refine And.intro (by first | decide | omega | assumption | exact Nat.le_of_ble_eq_true rfl | exact .inl ⟨by decide, by decide⟩ | exact .inr ⟨by decide, by decide⟩ | exact ⟨by decide, by decide⟩ | exact ⟨by omega, by omega⟩) ?_))
      refine ⟨a, _, rfl, .inl hS, ?_⟩
      (repeat (first | refine ⟨_, rfl, ?_⟩ | refine ⟨_, _, rfl, rfl, ?_⟩ | refine ⟨rfl, ?_⟩ | refine And.intro (by first | decide | omega | assumption | exact Nat.le_of_ble_eq_true rfl | exact .inl ⟨by decide, by decide⟩ | exact .inr ⟨by decide, by decide⟩ | exact ⟨by decide, by decide⟩ | exact ⟨by omega, by omega⟩) ?_))
      refine ⟨a, _, _, _, rfl, rfl, hS, hz', ?_⟩
      (repeat (first | refine ⟨_, rfl, ?_⟩ | refine ⟨_, _, rfl, rfl, ?_⟩ | refine ⟨rfl, ?_⟩ | refine And.intro (by first | decide | omega | assumption | exact Nat.le_of_ble_eq_true rfl | exact .inl ⟨by decide, by decide⟩ | exact .inr ⟨by decide, by decide⟩ | exact ⟨by decide, by decide⟩ | exact ⟨by omega, by omega⟩) ?_))
      refine fun p1 n1 => ?_
      (repeat (first | refine ⟨_, rfl, ?_⟩ | refine ⟨_, _, rfl, rfl, ?_⟩ | refine ⟨rfl, ?_⟩ | refine And.intro (by first | decide | omega | assumption | exact Nat.le_of_ble_eq_true rfl | exact .inl ⟨by decide, by decide⟩ | exact .inr ⟨by decide, by decide⟩ | exact ⟨by decide, by decide⟩ | exact ⟨by omega, by omega⟩) ?_))
      refine .inr ⟨_, rfl, ?_⟩
      obtain ⟨y, hy⟩ := box_at _ _
      refine ⟨p1, _, _, _, rfl, rfl, SqL.of upd_same, hy, ?_⟩
      (repeat (first | refine ⟨_, rfl, ?_⟩ | refine ⟨_, _, rfl, rfl, ?_⟩ | refine ⟨rfl, ?_⟩ | refine And.intro (by first | decide | omega | assumption | exact Nat.le_of_ble_eq_true rfl | exact .inl ⟨by decide, by decide⟩ | exact .inr ⟨by decide, by decide⟩ | exact ⟨by decide, by decide⟩ | exact ⟨by omega, by omega⟩) ?_))
      exact fun p2 n2 => q p2 _ (Same.free (Same.upd n1) n2) ⟨_, _, upd_same⟩ ((Same.upd n1).trans (Same.upd n2))
    · (repeat (first | refine ⟨_, rfl, ?_⟩ | refine ⟨_, _, rfl, rfl, ?_⟩ | refine ⟨rfl, ?_⟩ | refine And.intro (by first | decide | omega | assumption | exact Nat.le_of_ble_eq_true rfl | exact .inl ⟨by decide, by decide⟩ | exact .inr ⟨by decide, by decide⟩ | exact ⟨by decide, by decide⟩ | exact ⟨by omega, by omega⟩) ?_))
      refine fun p1 n1 => ?_
      (repeat (first | refine ⟨_, rfl, ?_⟩ | refine ⟨_, _, rfl, rfl, ?_⟩ | refine ⟨rfl, ?_⟩ | refine And.intro (by first | decide | omega | assumption | exact Nat.le_of_ble_eq_true rfl | exact .inl ⟨by decide, by decide⟩ | exact .inr ⟨by decide, by decide⟩ | exact ⟨by decide, by decide⟩ | exact ⟨by omega, by omega⟩) ?_))
      refine .inr ⟨_, rfl, ?_⟩
      obtain ⟨y, hy⟩ := box_at _ _
      refine ⟨p1, _, _, _, rfl, rfl, SqL.of upd_same, hy, ?_⟩
      (repeat (first | refine ⟨_, rfl, ?_⟩ | refine ⟨_, _, rfl, rfl, ?_⟩ | refine ⟨rfl, ?_⟩ | refine And.intro (by first | decide | omega | assumption | exact Nat.le_of_ble_eq_true rfl | exact .inl ⟨by decide, by decide⟩ | exact .inr ⟨by decide, by decide⟩ | exact ⟨by decide, by decide⟩ | exact ⟨by omega, by omega⟩) ?_))
      exact fun p2 n2 => q p2 _ (Same.free (Same.upd n1) n2) ⟨_, _, upd_same⟩ ((Same.upd n1).trans (Same.upd n2))
theorem ok_Lyard : FnOk P w K mg base CX0 2 f16 d16 ["_law_box_here", "_law_few", "_law_top"] (sp_Lyard K) := by
  have G_Ltake := ok_Ltake (P := P) (w := w) (base := base) T
  have G_Lother := ok_Lother (P := P) (w := w) (base := base) T
  refine T.F16.fn.ok sc_Lyard (fun vs H Q E h => len_Lyard h) (fun cdv A outer s H vs Q E hr h => ?_)
  refine ⟨_, (pss_cons (ps_set (i := 3) sc_Lyard.nd rfl (Or.inl rfl) (pe_callTy (call_listS rfl) rfl T.z_list boot_list (pa_cons (pe_S [97, 98, 99, 100, 101, 102, 103, 104, 105, 106, 107, 108, 109, 110, 111, 112, 113, 114, 115, 116, 117, 118, 119, 120, 121, 122] (by decide +kernel)) pa_nil)))
      (pss_cons (ps_set (i := 4) sc_Lyard.nd rfl (Or.inl rfl) (pe_lst pa_nil))
      (pss_cons (ps_for PassesOwn.never rfl (pi_range1 rfl T.z_range (pa_cons (pe_op op_add (pv 1) (pe_call G_Ltake (hr.mono (by decide)) rfl T.F14.mg T.F14.fn.kp T.F14.bd .nil pass0 (pa_cons (pv 0) (pa_cons (pe_op op_add (pe_op op_sub (pv 2) (pv 1)) pe_int) pa_nil)))) pa_nil)) (pg_name (i := 5) sc_Lyard.nd rfl (Or.inl rfl)) (pss_cons (ps_set (i := 6) sc_Lyard.nd rfl (Or.inl rfl) (pe_bmK K rfl PySem.F.plainAttrs_list PySem.F.slot_list_pop PySem.F.type_list_pop mt_popAt (pv 3) (pa_cons (pe_call G_Ltake (hr.mono (by decide)) rfl T.F14.mg T.F14.fn.kp T.F14.bd .nil pass0 (pa_cons (pv 0) (pa_cons (pe_callB (call_len_seqK K rfl) rfl T.z_len PySem.boot_len (pa_cons (pv 3) pa_nil)) pa_nil))) pa_nil)))
      (pss_one (ps_set (i := 4) sc_Lyard.nd rfl (Or.inl rfl) (pe_op op_cat (pv 4) (pe_lst (pa_cons (pv 6) (pa_cons (pe_call G_Lother (hr.mono (by decide)) rfl T.F15.mg T.F15.fn.kp T.F15.bd .nil pass0 (pa_cons (pv 6) pa_nil)) pa_nil))))))))
      (pss_cons (ps_set (i := 7) sc_Lyard.nd rfl (Or.inl rfl) (pe_S [] (by decide +kernel)))
      (pss_cons (ps_whileN PassesOwn.never (pt_cmpR op_gt (pe_callB (call_len_seqK K rfl) rfl T.z_len PySem.boot_len (pa_cons (pv 4) pa_nil)) pe_int (nomark _)) (pss_one (ps_set (i := 7) sc_Lyard.nd rfl (Or.inl rfl) (pe_op op_addS (pv 7) (pe_bmK K rfl PySem.F.plainAttrs_list PySem.F.slot_list_pop PySem.F.type_list_pop mt_popAt (pv 4) (pa_cons (pe_call G_Ltake (hr.mono (by decide)) rfl T.F14.mg T.F14.fn.kp T.F14.bd .nil pass0 (pa_cons (pv 0) (pa_cons (pe_callB (call_len_seqK K rfl) rfl T.z_len PySem.boot_len (pa_cons (pv 4) pa_nil)) pa_nil))) pa_nil))))))
      (pss_one (ps_ret (pv 7)))))))), ?_⟩
  obtain ⟨b, few, top, rfl, hb, h1, h2, h3, q⟩ := h
  have hs : (100000 : Nat) < sizeLine := by decide
  (repeat (first | refine ⟨_, rfl, ?_⟩ | refine ⟨_, _, rfl, rfl, ?_⟩ | refine ⟨rfl, ?_⟩ | refine And.intro (by first | decide | omega | assumption | exact Nat.le_of_ble_eq_true rfl | exact .inl ⟨by decide, by decide⟩ | exact .inr ⟨by decide, by decide⟩ | exact ⟨by decide, by decide⟩ | exact ⟨by omega, by omega⟩) ?_))
  intro p1 n1
  (repeat (first | refine ⟨_, rfl, ?_⟩ | refine ⟨_, _, rfl, rfl, ?_⟩ | refine ⟨rfl, ?_⟩ | refine And.intro (by first | decide | omega | assumption | exact Nat.le_of_ble_eq_true rfl | exact .inl ⟨by decide, by decide⟩ | exact .inr ⟨by decide, by decide⟩ | exact ⟨by decide, by decide⟩ | exact ⟨by omega, by omega⟩) ?_))
  intro p2 n2
  have s1 : Same H (upd (upd H p1 (.lst (sgs smalls))) p2 (.lst [])) := (Same.upd n1).trans (Same.upd n2)
  have bp1 : p1 ≠ b := hb.ne n1
  have np2 : H p2 = none := Same.free (Same.upd n1) n2
  have bp2 : p2 ≠ b := hb.ne np2
  have p12 : p1 ≠ p2 := fun z => by rw [<- z, upd_same] at n2; cases n2
  (repeat (first | refine ⟨_, rfl, ?_⟩ | refine ⟨_, _, rfl, rfl, ?_⟩ | refine ⟨rfl, ?_⟩ | refine And.intro (by first | decide | omega | assumption | exact Nat.le_of_ble_eq_true rfl | exact .inl ⟨by decide, by decide⟩ | exact .inr ⟨by decide, by decide⟩ | exact ⟨by decide, by decide⟩ | exact ⟨by omega, by omega⟩) ?_))
  refine ⟨b, _, rfl, hb.same s1, by omega, by omega, fun n H1 hn hb1 s2 => ?_⟩
  (repeat (first | refine ⟨_, rfl, ?_⟩ | refine ⟨_, _, rfl, rfl, ?_⟩ | refine ⟨rfl, ?_⟩ | refine And.intro (by first | decide | omega | assumption | exact Nat.le_of_ble_eq_true rfl | exact .inl ⟨by decide, by decide⟩ | exact .inr ⟨by decide, by decide⟩ | exact ⟨by decide, by decide⟩ | exact ⟨by omega, by omega⟩) ?_))
  refine for_range (fun i σ H' => ∃ (pe : Addr) (L E : List Nat) (kv lv : Option V), σ = [some (.ref b), some (.int few), some (.int top), some (.ref p1), some (.ref pe), kv, lv, none] /\ YdW i L E /\ H' p1 = some (.lst (sgs L)) /\ H' pe = some (.lst (sgs E)) /\ p1 ≠ pe /\ H pe = none /\ BoxAt H' b /\ SameB b H H')
    ⟨p2, smalls, [], none, none, rfl, YdW.start, s2 _ _ (by rw [upd_ne p12, upd_same]; rfl) bp1, s2 _ _ upd_same bp2, p12, np2, hb1, (SameB.of s1).trans s2⟩ ?_ ?_
  · rintro i σ H2 hi ⟨pe, L, E, kv, lv, rfl, yw, hp1, hpe, n1e, npe, hb2, s3⟩
    have hi2 : i < 26 := by simp at hi; omega
    have hll := yw.ll
    have hel := yw.el
    refine ⟨_, rfl, .inl ⟨rfl, _, SqL.of hp1⟩, ?_⟩
    (repeat (first | refine ⟨_, rfl, ?_⟩ | refine ⟨_, _, rfl, rfl, ?_⟩ | refine ⟨rfl, ?_⟩ | refine And.intro (by first | decide | omega | assumption | exact Nat.le_of_ble_eq_true rfl | exact .inl ⟨by decide, by decide⟩ | exact .inr ⟨by decide, by decide⟩ | exact ⟨by decide, by decide⟩ | exact ⟨by omega, by omega⟩) ?_))
    refine ⟨p1, _, rfl, .inl (SqL.of hp1), b, _, rfl, hb2, by rw [sgs_len]; omega, by rw [sgs_len]; omega, fun r H3 hr3 hb3 s4 => ?_⟩
    rw [sgs_len] at hr3
    have hr4 : r < L.length := by omega
    have hp1' := s4 _ _ hp1 bp1
    have hpe' := s4 _ _ hpe (hb.ne npe)
    refine ⟨p1, _, _, r, _, rfl, rfl, hp1', by omega, by omega, by rw [sgs_len, seqIndex_of (by omega) (by omega), Int.toNat_natCast], sgs_at hr4, ?_⟩
    rw [sgs_erase]
    have hlt : Lt L[r] := .inl (yw.sm _ (List.getElem_mem hr4))
    have hpe2 : (upd H3 p1 (.lst (sgs (L.eraseIdx r)))) pe = some (.lst (sgs E)) := by rw [upd_ne (Ne.symm n1e)]; exact hpe'
    (repeat (first | refine ⟨_, rfl, ?_⟩ | refine ⟨_, _, rfl, rfl, ?_⟩ | refine ⟨rfl, ?_⟩ | refine And.intro (by first | decide | omega | assumption | exact Nat.le_of_ble_eq_true rfl | exact .inl ⟨by decide, by decide⟩ | exact .inr ⟨by decide, by decide⟩ | exact ⟨by decide, by decide⟩ | exact ⟨by omega, by omega⟩) ?_))
    intro p3 n3
    have e3 : pe ≠ p3 := ne_of_none hpe2 n3
    refine ⟨pe, p3, _, _, rfl, rfl, by rw [upd_ne e3]; exact hpe2, upd_same, by rw [sgs_len]; show E.length + 2 <= _; omega, fun p4 n4 => ?_⟩
    have n3' : H p3 = none := ((s3.trans s4).updN n1).none n3 (hb3.updN bp1 |>.ne n3)
    have bx3 := (hb3.updN (o := .lst (sgs (L.eraseIdx r))) bp1).updN (o := .lst [V.str (S [L[r]]), V.str (S [ctr L[r]])]) (hb.ne n3')
    have sx3 := ((s3.trans s4).updN (o := .lst (sgs (L.eraseIdx r))) n1).updN (o := .lst [V.str (S [L[r]]), V.str (S [ctr L[r]])]) n3'
    have n4' : H p4 = none := sx3.none n4 (bx3.ne n4)
    have h14 : p1 ≠ p4 := fun z => by rw [<- z] at n4; by_cases z3 : p1 = p3 <;> simp [upd, z3] at n4
    have h13 : p1 ≠ p3 := fun z => by rw [<- z, upd_same] at n3; cases n3
    refine ⟨p4, L.eraseIdx r, E ++ [L[r], ctr L[r]], _, _, rfl, yw.turn hi2 hr4, by rw [upd_ne h14, upd_ne h13, upd_same], ?_, h14, n4', bx3.updN (hb.ne n4'), sx3.updN n4'⟩
    rw [upd_same, <- sgs_app]
    rfl
  · rintro σ H2 ⟨pe, L, E, kv, lv, rfl, yw, hp1, hpe, n1e, npe, hb2, s3⟩
    have hel := yw.el
    have hbe := hb.ne npe
    (repeat (first | refine ⟨_, rfl, ?_⟩ | refine ⟨_, _, rfl, rfl, ?_⟩ | refine ⟨rfl, ?_⟩ | refine And.intro (by first | decide | omega | assumption | exact Nat.le_of_ble_eq_true rfl | exact .inl ⟨by decide, by decide⟩ | exact .inr ⟨by decide, by decide⟩ | exact ⟨by decide, by decide⟩ | exact ⟨by omega, by omega⟩) ?_))
    refine ⟨fun m σ H' => ∃ F E' : List Nat, σ = [some (.ref b), some (.int few), some (.int top), some (.ref p1), some (.ref pe), kv, lv, some (.str (S F))] /\ m = E'.length /\ (F ++ E').Perm E /\ H' pe = some (.lst (sgs E')) /\ BoxAt H' b /\ SameB b H H', ⟨_, [], E, rfl, rfl, List.Perm.refl _, hpe, hb2, s3⟩, ?_⟩
    rintro m σ H3 ⟨F, E', rfl, rfl, hpm, hpe3, hb3, s4⟩
    have hlen := hpm.length_eq
    rw [List.length_append] at hlen
    have hn2 : (few : Int) + n <= 9 := by omega
    have hE26 : E.length <= 100 := by rw [hel]; omega
    (repeat (first | refine ⟨_, rfl, ?_⟩ | refine ⟨_, _, rfl, rfl, ?_⟩ | refine ⟨rfl, ?_⟩ | refine And.intro (by first | decide | omega | assumption | exact Nat.le_of_ble_eq_true rfl | exact .inl ⟨by decide, by decide⟩ | exact .inr ⟨by decide, by decide⟩ | exact ⟨by decide, by decide⟩ | exact ⟨by omega, by omega⟩) ?_))
    refine ⟨pe, _, rfl, .inl (SqL.of hpe3), _, _, rfl, rfl, _, rfl, ite2 (fun e => ?_) (fun e => ?_)⟩
    · have e' : (0 : Int) < ((sgs E').length : Nat) := of_decide_eq_true e
      rw [sgs_len] at e'
      refine ⟨_, rfl, _, rfl, .inl ⟨rfl, _, SqL.of hpe3⟩, ?_⟩
      (repeat (first | refine ⟨_, rfl, ?_⟩ | refine ⟨_, _, rfl, rfl, ?_⟩ | refine ⟨rfl, ?_⟩ | refine And.intro (by first | decide | omega | assumption | exact Nat.le_of_ble_eq_true rfl | exact .inl ⟨by decide, by decide⟩ | exact .inr ⟨by decide, by decide⟩ | exact ⟨by decide, by decide⟩ | exact ⟨by omega, by omega⟩) ?_))
      refine ⟨pe, _, rfl, .inl (SqL.of hpe3), b, _, rfl, hb3, by rw [sgs_len]; omega, by rw [sgs_len]; omega, fun r H4 hr4 hb4 s5 => ?_⟩
      rw [sgs_len] at hr4
      have hr5 : r < E'.length := by omega
      refine ⟨pe, _, _, r, _, rfl, rfl, s5 _ _ hpe3 hbe, by omega, by omega, by rw [sgs_len, seqIndex_of (by omega) (by omega), Int.toNat_natCast], sgs_at hr5, ?_⟩
      rw [sgs_erase]
      have hp := erase_perm (List.getElem?_eq_getElem hr5)
      have hpl := hp.length_eq
      rw [List.length_cons] at hpl
      refine ⟨F, _, rfl, rfl, by show F.length + 1 <= _; omega, (E'.eraseIdx r).length, by omega, F ++ [E'[r]], E'.eraseIdx r, rfl, rfl, ?_, upd_same, hb4.updN hbe, (s4.trans s5).updN npe⟩
      rw [List.append_assoc]
      exact (List.Perm.append_left F hp).trans hpm
    · have e' : E' = [] := by
        cases E' with
        | nil => rfl
        | cons c r => exact absurd (decide_eq_true (by rw [sgs_len]; show (0 : Int) < ((r.length + 1 : Nat) : Int); omega)) e
      subst e'
      rw [List.append_nil] at hpm
      have hl2 := hpm.length_eq
      refine ⟨_, rfl, q F H3 (yw.yd.perm hpm.symm) ?_ ?_ hb3 s4⟩
      · rw [hl2, hel]; omega
      · rw [hl2, hel]; omega
theorem ok_Lword : FnOk P w K mg base CX0 2 f17 d17 ["_law_box_here", "_law_yard_here", "_law_top"] (sp_Lword K) := by
  have G_Ltake := ok_Ltake (P := P) (w := w) (base := base) T
  refine T.F17.fn.ok sc_Lword (fun vs H Q E h => len_Lword h) (fun cdv A outer s H vs Q E hr h => ?_)
  refine ⟨_, (pss_one (ps_ret (pe_bmK K rfl PySem.F.plainAttrs_str PySem.F.slot_str_join PySem.F.type_str_join (mt_joinK K rfl) (pe_S [] (by decide +kernel)) (pa_cons (pe_compB ["_law_k", "_law_yard_here", "_law_box_here"] [none, some 1, some 0] (pi_range1 rfl T.z_range (pa_cons (pe_call G_Ltake (hr.mono (by decide)) rfl T.F14.mg T.F14.fn.kp T.F14.bd .nil pass0 (pa_cons (pv 0) (pa_cons (pe_op op_add (pv 2) pe_int) pa_nil))) pa_nil)) ⟨⟨rfl, rfl, by first | exact .inl rfl | exact .inr rfl⟩, ⟨⟨rfl, rfl, by first | exact .inl rfl | exact .inr rfl⟩, trivial⟩⟩ (fun _ _ _ _ => (pg_name (i := 0) (by decide +kernel : List.Nodup (["_law_k", "_law_yard_here", "_law_box_here"] : List Str)) rfl (Or.inl rfl))) (fun _ _ _ _ => pf_nil) (fun _ _ _ _ => (pe_ix ix_S (pv 1) (pe_call G_Ltake (hr.mono (by decide)) rfl T.F14.mg T.F14.fn.kp T.F14.bd .nil pass0 (pa_cons (pv 2) (pa_cons (pe_callB call_lenS rfl T.z_len PySem.boot_len (pa_cons (pv 1) pa_nil)) pa_nil))) (fun _ _ => rfl)))) pa_nil)))), ?_⟩
  obtain ⟨b, y, top, rfl, hb, hy, hyl, ht, q⟩ := h
  have hs : (100000 : Nat) < sizeLine := by decide
  (repeat (first | refine ⟨_, rfl, ?_⟩ | refine ⟨_, _, rfl, rfl, ?_⟩ | refine ⟨rfl, ?_⟩ | refine And.intro (by first | decide | omega | assumption | exact Nat.le_of_ble_eq_true rfl | exact .inl ⟨by decide, by decide⟩ | exact .inr ⟨by decide, by decide⟩ | exact ⟨by decide, by decide⟩ | exact ⟨by omega, by omega⟩) ?_))
  refine ⟨b, _, rfl, hb, by omega, by omega, fun n H1 hn hb1 s1 => ?_⟩
  (repeat (first | refine ⟨_, rfl, ?_⟩ | refine ⟨_, _, rfl, rfl, ?_⟩ | refine ⟨rfl, ?_⟩ | refine And.intro (by first | decide | omega | assumption | exact Nat.le_of_ble_eq_true rfl | exact .inl ⟨by decide, by decide⟩ | exact .inr ⟨by decide, by decide⟩ | exact ⟨by decide, by decide⟩ | exact ⟨by omega, by omega⟩) ?_))
  refine comp_rng (fun i acc H' => BoxAt H' b /\ SameB b H H' /\ ∃ l : List Nat, acc = sgs l /\ l.length = i /\ ∀ c ∈ l, c ∈ y) (by simp; omega) ⟨hb1, s1, [], rfl, rfl, by simp⟩ ?_ ?_
  · rintro i acc H2 Nx hi hl ⟨hb2, s2, l, rfl, hl2, hm⟩ nx
    have hpos : 0 < y.length := List.length_pos_iff.mpr hy
    refine ⟨⟨rfl, rfl, trivial⟩, yes_ite ?_⟩
    (repeat (first | refine ⟨_, rfl, ?_⟩ | refine ⟨_, _, rfl, rfl, ?_⟩ | refine ⟨rfl, ?_⟩ | refine And.intro (by first | decide | omega | assumption | exact Nat.le_of_ble_eq_true rfl | exact .inl ⟨by decide, by decide⟩ | exact .inr ⟨by decide, by decide⟩ | exact ⟨by decide, by decide⟩ | exact ⟨by omega, by omega⟩) ?_))
    refine ⟨b, _, rfl, hb2, by omega, by omega, fun r H3 hr3 hb3 s3 => ?_⟩
    have hr4 : r < y.length := by omega
    refine ⟨y, _, y[r], rfl, rfl, by omega, atI_nat (List.getElem?_eq_getElem hr4), ?_⟩
    refine nx _ _ (by simpa using hl) ⟨hb3, s2.trans s3, l ++ [y[r]], sgs_snoc _ _, by simp [hl2], fun c hc => ?_⟩
    rcases List.mem_append.mp hc with z | z
    · exact hm c z
    · rw [List.mem_singleton.mp z]; exact List.getElem_mem hr4
  · rintro acc H2 D hl ⟨hb2, s2, l, rfl, hl2, hm⟩ hD
    have hl3 : l.length <= top := by simp at hl2; omega
    refine ⟨D, l.map fun c => [c], rfl, rfl, SqL.of ?_, ?_, ?_⟩
    · rw [upd_same, <- sgs_lists]
    · rw [sum1]; omega
    · rw [flat1]
      exact q l _ hm hl3 (hb2.same (Same.upd hD)) (s2.trans (SameB.of (Same.upd hD)))
theorem ok_Lwords : FnOk P w K mg base CX0 3 f21 d21 ["_law_box_here", "_law_yard_here"] (sp_Lwords K) := by
  have G_Ltake := ok_Ltake (P := P) (w := w) (base := base) T
  have G_Lword := ok_Lword (P := P) (w := w) (base := base) T
  refine T.F21.fn.ok sc_Lwords (fun vs H Q E h => len_Lwords h) (fun cdv A outer s H vs Q E hr h => ?_)
  refine ⟨_, (pss_cons (ps_set (i := 2) sc_Lwords.nd rfl (Or.inl rfl) pe_int)
      (pss_cons (ps_set (i := 3) sc_Lwords.nd rfl (Or.inl rfl) (pe_lst pa_nil))
      (pss_cons (ps_for PassesOwn.never rfl (pi_range1 rfl T.z_range (pa_cons (pe_call G_Ltake (hr.mono (by decide)) rfl T.F14.mg T.F14.fn.kp T.F14.bd .nil pass0 (pa_cons (pv 0) (pa_cons pe_int pa_nil))) pa_nil)) (pg_name (i := 4) sc_Lwords.nd rfl (Or.inl rfl)) (pss_cons (ps_set (i := 5) sc_Lwords.nd rfl (Or.inl rfl) (pe_call G_Lword (hr.mono (by decide)) rfl T.F17.mg T.F17.fn.kp T.F17.bd .nil pass0 (pa_cons (pv 0) (pa_cons (pv 1) (pa_cons (pe_callB (call_min2 rfl) rfl T.z_min boot_min (pa_cons (pv 2) (pa_cons (pe_ix (ix_listK K rfl) (pe_lst (pa_cons pe_int (pa_cons pe_int (pa_cons pe_int pa_nil)))) (pe_call G_Ltake (hr.mono (by decide)) rfl T.F14.mg T.F14.fn.kp T.F14.bd .nil pass0 (pa_cons (pv 0) (pa_cons pe_int pa_nil))) (fun _ _ => rfl)) pa_nil))) pa_nil)))))
      (pss_cons (ps_set (i := 2) sc_Lwords.nd rfl (Or.inl rfl) (pe_op op_sub (pv 2) (pe_callB call_lenS rfl T.z_len PySem.boot_len (pa_cons (pv 5) pa_nil))))
      (pss_one (ps_expr (pe_bmK K rfl PySem.F.plainAttrs_list PySem.F.slot_list_append PySem.F.type_list_append mt_append (pv 3) (pa_cons (pv 5) pa_nil)))))))
      (pss_one (ps_ret (pe_callTy (call_tuple_ofK K rfl) rfl T.z_tuple boot_tuple (pa_cons (pv 3) pa_nil))))))), ?_⟩
  obtain ⟨b, y, rfl, hb, hyn, hz, q⟩ := h
  have hs : (100000 : Nat) < sizeLine := by decide
  (repeat (first | refine ⟨_, rfl, ?_⟩ | refine ⟨_, _, rfl, rfl, ?_⟩ | refine ⟨_, _, _, rfl, rfl, by first | assumption | omega, by assumption, ?_⟩ | refine ⟨rfl, ?_⟩ | refine And.intro (by first | decide | omega | assumption | exact Nat.le_of_ble_eq_true rfl | exact .inl ⟨by decide, by decide⟩ | exact .inr ⟨by decide, by decide⟩ | exact ⟨by decide, by decide⟩ | exact ⟨by omega, by omega⟩) ?_))
  intro p1 n1
  have bp1 : p1 ≠ b := hb.ne n1
  (repeat (first | refine ⟨_, rfl, ?_⟩ | refine ⟨_, _, rfl, rfl, ?_⟩ | refine ⟨_, _, _, rfl, rfl, by first | assumption | omega, by assumption, ?_⟩ | refine ⟨rfl, ?_⟩ | refine And.intro (by first | decide | omega | assumption | exact Nat.le_of_ble_eq_true rfl | exact .inl ⟨by decide, by decide⟩ | exact .inr ⟨by decide, by decide⟩ | exact ⟨by decide, by decide⟩ | exact ⟨by omega, by omega⟩) ?_))
  refine ⟨b, 5, rfl, hb.same (Same.upd n1), by decide, by decide, fun n H1 hn hb1 s1 => ?_⟩
  (repeat (first | refine ⟨_, rfl, ?_⟩ | refine ⟨_, _, rfl, rfl, ?_⟩ | refine ⟨_, _, _, rfl, rfl, by first | assumption | omega, by assumption, ?_⟩ | refine ⟨rfl, ?_⟩ | refine And.intro (by first | decide | omega | assumption | exact Nat.le_of_ble_eq_true rfl | exact .inl ⟨by decide, by decide⟩ | exact .inr ⟨by decide, by decide⟩ | exact ⟨by decide, by decide⟩ | exact ⟨by omega, by omega⟩) ?_))
  refine for_range (fun i σ H' => ∃ (ws : List (List Nat)) (lf : Nat) (kv wv : Option V), σ = [some (.ref b), some (.str (S y)), some (.int lf), some (.ref p1), kv, wv] /\ H' p1 = some (.lst (txs ws)) /\ ws.length = i /\ (∀ w ∈ ws, (∀ c ∈ w, c ∈ y) /\ w.length <= 12) /\ lf <= 24 /\ BoxAt H' b /\ SameB b H H')
    ⟨[], 24, none, none, rfl, s1 _ _ upd_same bp1, rfl, fun _ h => absurd h List.not_mem_nil, Nat.le_refl _, hb1, (SameB.of (Same.upd n1)).trans s1⟩ ?_ ?_
  · rintro i σ H2 hi ⟨ws, lf, kv, wv, rfl, hp1, hwl, hw, hlf, hb2, s2⟩
    have hi5 : i < 5 := by omega
    refine ⟨_, rfl, _, rfl, _, rfl, by decide, fun p2 n2 => ?_⟩
    have bp2 : p2 ≠ b := hb2.ne n2
    refine ⟨_, rfl, b, 3, rfl, hb2.same (Same.upd n2), by decide, by decide, fun r H3 hr3 hb3 s3 => ?_⟩
    obtain ⟨v, hv, hv12⟩ : ∃ v : Nat, atI [V.int 3, V.int 6, V.int 12] ((r : Nat) : Int) = some (V.int v) /\ v <= 12 := by
      have h3 : r = 0 \/ r = 1 \/ r = 2 := by omega
      rcases h3 with rfl | rfl | rfl
      · exact ⟨3, atI_nat (xs := [V.int 3, V.int 6, V.int 12]) (j := 0) rfl, by decide⟩
      · exact ⟨6, atI_nat (xs := [V.int 3, V.int 6, V.int 12]) (j := 1) rfl, by decide⟩
      · exact ⟨12, atI_nat (xs := [V.int 3, V.int 6, V.int 12]) (j := 2) rfl, by decide⟩
    refine ⟨p2, _, _, _, rfl, rfl, SqL.of (s3 _ _ upd_same bp2), hv, _, _, rfl, ?_⟩
    obtain ⟨top, ht, ht1, ht2⟩ : ∃ top : Nat, (if (v : Int) < (lf : Int) then (v : Int) else (lf : Int)) = (top : Int) /\ top <= lf /\ top <= 12 := by
      split
      · exact ⟨v, rfl, by omega, hv12⟩
      · exact ⟨lf, rfl, Nat.le_refl _, by omega⟩
    rw [ht]
    refine ⟨b, y, top, rfl, hb3, hyn, by omega, by omega, fun w H4 hwm hwz hb4 s4 => ?_⟩
    have s24 : SameB b H2 H4 := ((SameB.of (Same.upd n2)).trans s3).trans s4
    have hp4 := s24 _ _ hp1 bp1
    refine ⟨_, rfl, _, rfl, w, rfl, by omega, _, _, rfl, rfl, ?_⟩
    refine ⟨_, rfl, .inl ⟨rfl, _, SqL.of hp4⟩, _, rfl, p1, _, _, rfl, rfl, hp4, by rw [txs_len]; omega, ?_⟩
    rw [txs_snoc]
    have elf : ((lf : Int) - (w.length : Int)) = ((lf - w.length : Nat) : Int) := by omega
    refine ⟨ws ++ [w], lf - w.length, _, _, by rw [<- elf]; rfl, upd_same, by simp [hwl], fun u hu => ?_, by omega, hb4.updN bp1, (s2.trans s24).updN n1⟩
    rcases List.mem_append.mp hu with z | z
    · exact hw u z
    · rw [List.mem_singleton.mp z]; exact ⟨hwm, by omega⟩
  · rintro σ H2 ⟨ws, lf, kv, wv, rfl, hp1, hwl, hw, hlf, hb2, s2⟩
    refine ⟨_, rfl, p1, _, rfl, .inl ⟨SqL.of hp1, fun t nt => ?_⟩⟩
    have nt0 : H t = none := s2.none nt (hb2.ne nt)
    exact q t ws _ nt0 (hb.ne nt0) upd_same ⟨by omega, hw⟩ (hb2.updN (hb.ne nt0)) (s2.updN nt0)
theorem ok_Lbands : FnOk P w K mg base CX0 1 f19 d19 ["_law_yard_here"] (sp_Lbands K) := by
  refine T.F19.fn.ok sc_Lbands (fun vs H Q E h => len_Lbands h) (fun cdv A outer s H vs Q E hr h => ?_)
  refine ⟨_, (pss_one (ps_ret (pe_callB (call_sortedK K rfl) rfl T.z_sorted boot_sorted (pa_cons (pe_compB ["_law_letter"] [none] (pi_str (pv 0)) trivial (fun _ _ _ _ => (pg_name (i := 0) (by decide +kernel : List.Nodup (["_law_letter"] : List Str)) rfl (Or.inl rfl))) (fun _ _ _ _ => (pf_one (pt_cmpR op_inS (pv 0) (pe_S [97, 98, 99, 100, 101, 102, 103, 104, 105, 106, 107, 108, 109, 110, 111, 112, 113, 114, 115, 116, 117, 118, 119, 120, 121, 122] (by decide +kernel)) (by with_unfolding_all rfl)))) (fun _ _ _ _ => (pv 0))) pa_nil)))), ?_⟩
  obtain ⟨y, rfl, hz, q⟩ := h
  have hs : (1000 : Nat) < sizeLine := by decide
  refine ⟨_, rfl, y, rfl, ?_⟩
  refine comp_fix (xs := sgs y) (fun i acc H' => Same H H' /\ acc = sgs ((y.take i).filter fun c => decide (c ∈ smalls))) (by rw [sgs_len]; omega) ⟨Same.refl H, rfl⟩ ?_ ?_
  · rintro i x acc H1 Nx hi hx hal ⟨s1, rfl⟩ nx
    obtain ⟨c, hc, rfl⟩ := sgs_get hx
    have e := filter_take (p := fun c => decide (c ∈ smalls)) hc
    refine ⟨trivial, ?_⟩
    refine ⟨_, rfl, c, smalls, rfl, rfl, _, rfl, ?_⟩
    refine ite2 (fun z => ?_) (fun z => ?_)
    · rw [if_pos z] at e
      exact ⟨_, rfl, nx _ _ (by simpa using hal) ⟨s1, by rw [e, <- sgs_snoc]⟩⟩
    · rw [if_neg z, List.append_nil] at e
      exact nx _ _ (Nat.le_succ_of_le hal) ⟨s1, by rw [e]⟩
  · rintro acc H1 D hal ⟨s1, rfl⟩ hD
    rw [sgs_take, sgs_lists]
    have hfl : (y.filter fun c => decide (c ∈ smalls)).length <= y.length := List.length_filter_le _ _
    refine ⟨D, (y.filter fun c => decide (c ∈ smalls)).map fun c => [c], rfl, SqL.of upd_same, by rw [List.length_map]; omega, fun p ls hp hpm hpw => ?_⟩
    obtain ⟨l', rfl, pl⟩ := ones_of hpm
    refine q p l' _ (Same.free (Same.trans s1 (Same.upd hD)) hp) (by rw [upd_same, <- sgs_lists]) pl (ones_pw hpw) ((s1.trans (Same.upd hD)).trans (Same.upd hp))
theorem ok_Ldrawing : FnOk P w K mg base CX0 3 f20 d20 ["_law_box_here", "_law_yard_here", "_law_words_here"] (sp_Ldrawing K) := by
  have G_Lbands := ok_Lbands (P := P) (w := w) (base := base) T
  have G_Lother := ok_Lother (P := P) (w := w) (base := base) T
  have G_Lorder := ok_Lorder (P := P) (w := w) (base := base) T
  refine T.F20.fn.ok sc_Ldrawing (fun vs H Q E h => len_Ldrawing h) (fun cdv A outer s H vs Q E hr h => ?_)
  refine ⟨_, (pss_cons (ps_set (i := 3) sc_Ldrawing.nd rfl (Or.inl rfl) (pe_lst pa_nil))
      (pss_cons (ps_for PassesOwn.never rfl (pi_listK K rfl (pe_call G_Lbands (hr.mono (by decide)) rfl T.F19.mg T.F19.fn.kp T.F19.bd .nil pass0 (pa_cons (pv 1) pa_nil))) (pg_name (i := 4) sc_Ldrawing.nd rfl (Or.inr rfl)) (pss_cons (ps_set (i := 5) sc_Ldrawing.nd rfl (Or.inl rfl) (pe_lst pa_nil))
      (pss_cons (ps_for PassesOwn.never rfl (pi_enumT K rfl rfl T.z_enumerate (pa_cons (pv 2) pa_nil)) (pg_tupK (n := 2) K rfl rfl (pgs_cons (pg_name (i := 6) sc_Ldrawing.nd rfl (Or.inr rfl)) (pgs_cons (pg_name (i := 7) sc_Ldrawing.nd rfl (Or.inl rfl)) pgs_nil))) (pss_one (ps_expr (pe_bmK K rfl PySem.F.plainAttrs_list PySem.F.slot_list_extend PySem.F.type_list_extend mt_extend (pv 5) (pa_cons (pe_compB ["_law_i", "_law_letter", "_law_c", "_law_band"] [none, none, some 6, some 4] (pi_enumS rfl T.z_enumerate (pa_cons (pv 7) pa_nil)) ⟨⟨rfl, rfl, by first | exact .inl rfl | exact .inr rfl⟩, ⟨⟨rfl, rfl, by first | exact .inl rfl | exact .inr rfl⟩, trivial⟩⟩ (fun _ _ _ _ => (pg_tupK (n := 2) K rfl rfl (pgs_cons (pg_name (i := 0) (by decide +kernel : List.Nodup (["_law_i", "_law_letter", "_law_c", "_law_band"] : List Str)) rfl (Or.inl rfl)) (pgs_cons (pg_name (i := 1) (by decide +kernel : List.Nodup (["_law_i", "_law_letter", "_law_c", "_law_band"] : List Str)) rfl (Or.inl rfl)) pgs_nil)))) (fun _ _ _ _ => (pf_one (pt_cmpR (op_inK K rfl) (pv 1) (pe_tup (pa_cons (pv 3) (pa_cons (pe_call G_Lother (hr.mono (by decide)) rfl T.F15.mg T.F15.fn.kp T.F15.bd .nil pass0 (pa_cons (pv 3) pa_nil)) pa_nil))) (by with_unfolding_all rfl)))) (fun _ _ _ _ => (pe_tup (pa_cons (pv 2) (pa_cons (pv 0) pa_nil))))) pa_nil)))))
      (pss_one (ps_expr (pe_bmK K rfl PySem.F.plainAttrs_list PySem.F.slot_list_append PySem.F.type_list_append mt_append (pv 3) (pa_cons (pe_callTy (call_tuple_ofK K rfl) rfl T.z_tuple boot_tuple (pa_cons (pe_call G_Lorder (hr.mono (by decide)) rfl T.F18.mg T.F18.fn.kp T.F18.bd .nil pass0 (pa_cons (pv 0) (pa_cons (pv 5) pa_nil))) pa_nil)) pa_nil)))))))
      (pss_one (ps_ret (pe_tup (pa_cons (pe_callTy (call_tuple_ofK K rfl) rfl T.z_tuple boot_tuple (pa_cons (pv 2) pa_nil)) (pa_cons (pe_callTy (call_tuple_ofK K rfl) rfl T.z_tuple boot_tuple (pa_cons (pv 3) pa_nil)) pa_nil))))))), ?_⟩
  obtain ⟨b, y, wt, ws, rfl, hb, hy, hz, hwb, hwt, hw, q⟩ := h
  have hs : (100000 : Nat) < sizeLine := by decide
  have hwf := hw.few
  (repeat (first | refine ⟨_, rfl, ?_⟩ | refine ⟨_, _, rfl, rfl, ?_⟩ | refine ⟨_, _, _, rfl, rfl, by first | assumption | omega, by assumption, ?_⟩ | refine ⟨rfl, ?_⟩ | refine And.intro (by first | decide | omega | assumption | exact Nat.le_of_ble_eq_true rfl | exact .inl ⟨by decide, by decide⟩ | exact .inr ⟨by decide, by decide⟩ | exact ⟨by decide, by decide⟩ | exact ⟨by omega, by omega⟩) ?_))
  intro p1 n1
  have bp1 : p1 ≠ b := hb.ne n1
  have h1w : p1 ≠ wt := Ne.symm (ne_of_none hwt n1)
  refine ⟨_, rfl, y, rfl, by omega, fun p2 l2 H1 n2 hp2 hl2 hw2 s1 => ?_⟩
  rw [smalls_low hy.lt] at hl2
  have el := bsOf_eq hl2 hw2
  subst el
  have n20 : H p2 = none := Same.free (Same.upd n1) n2
  have bp2 : p2 ≠ b := hb.ne n20
  have p12 : p1 ≠ p2 := fun z => by rw [<- z, upd_same] at n2; cases n2
  have s01 : Same H H1 := (Same.upd n1).trans s1
  have hp1 : H1 p1 = some (.lst []) := s1 _ _ upd_same
  have hbl := bsOf_len hy
  refine ⟨p2, rfl, ⟨_, SqL.of hp2⟩, ?_⟩
  refine for_list (K := K) (a := p2) (xs := sgs (bsOf y)) (fun i σ H' => ∃ (os : List Od) (bv sv cv wv : Option V), σ = [some (.ref b), some (.str (S y)), some (.ref wt), some (.ref p1), bv, sv, cv, wv] /\ H' p1 = some (.lst (odv os)) /\ H' p2 = some (.lst (sgs (bsOf y))) /\ os.length = i /\ (∀ o ∈ os, OdOk H' o) /\ (∀ (j : Nat) (o : Od) (c : Nat), os[j]? = some o -> (bsOf y)[j]? = some c -> (o.ps.map Pr.pair).Perm (strAll c ws ws.length)) /\ BoxAt H' b /\ SameB b H H')
    ⟨[], none, none, none, none, rfl, hp1, hp2, rfl, fun _ h => absurd h List.not_mem_nil, fun j o c h => by simp at h, hb.same s01, SameB.of s01⟩ (fun i σ H' _ ⟨_, _, _, _, _, _, _, h, _⟩ => SqL.of h) ?_ ?_
  · rintro i x σ H2 hx ⟨os, bv, sv, cv, wv, rfl, hp1, hp2, hol, hod, hos, hb2, s2⟩
    obtain ⟨band, hband, rfl⟩ := sgs_get hx
    have hi : i < (bsOf y).length := (List.getElem?_eq_some_iff.mp hband).1
    have hbl2 : Lt band := hy.lt band (List.mem_filter.mp ((bsOf_perm y).mem_iff.mp (List.mem_of_getElem? hband))).1
    (repeat (first | refine ⟨_, rfl, ?_⟩ | refine ⟨_, _, rfl, rfl, ?_⟩ | refine ⟨_, _, _, rfl, rfl, by first | assumption | omega, by assumption, ?_⟩ | refine ⟨rfl, ?_⟩ | refine And.intro (by first | decide | omega | assumption | exact Nat.le_of_ble_eq_true rfl | exact .inl ⟨by decide, by decide⟩ | exact .inr ⟨by decide, by decide⟩ | exact ⟨by decide, by decide⟩ | exact ⟨by omega, by omega⟩) ?_))
    intro p3 n3
    have hwt2 := s2 _ _ hwt hwb
    refine ⟨_, rfl, wt, rfl, ⟨_, SqT.of ((Same.upd n3) _ _ hwt2)⟩, ?_⟩
    refine for_enumT (K := K) (a := wt) (xs := txs ws) (fun j σ H' => ∃ (ps : List Pr) (cv wv : Option V), σ = [some (.ref b), some (.str (S y)), some (.ref wt), some (.ref p1), some (.str (S [band])), some (.ref p3), cv, wv] /\ H' p3 = some (.lst (prv ps)) /\ (∀ p ∈ ps, PrOk H' p) /\ ps.map Pr.pair = strAll band ws j /\ ps.length <= 12 * j /\ Same H2 H')
      ⟨[], cv, wv, rfl, upd_same, fun _ h => absurd h List.not_mem_nil, rfl, Nat.zero_le _, Same.upd n3⟩ (fun j σ H' _ ⟨_, _, _, _, _, _, _, _, h⟩ => SqT.of (h _ _ hwt2)) ?_ ?_
    · rintro j x σ H3 T hxj ⟨ps, cv3, wv3, rfl, hp3, hps, hpe, hpl, s3⟩ nT
      have hj : j < ws.length := by
        have := (List.getElem?_eq_some_iff.mp hxj).1
        rwa [txs_len] at this
      rw [txs_at hj] at hxj
      cases hxj
      have hjw : ws[j]? = some ws[j] := List.getElem?_eq_getElem hj
      obtain ⟨hwy, hwz⟩ := hw.all _ (List.getElem_mem hj)
      generalize ws[j] = w at hjw hwy hwz ⊢
      refine ⟨T, _, rfl, SqT.of upd_same, rfl, _, _, rfl, _, _, rfl, rfl, ?_⟩
      have s3T := Same.upd (o := .tup [.int j, .str (S w)]) nT
      have hp3T := s3T _ _ hp3
      refine ⟨_, rfl, .inl ⟨rfl, _, SqL.of hp3T⟩, _, rfl, w, rfl, ?_⟩
      refine comp_enum (l := w) (fun m acc H' => Same (upd H3 T (.tup [.int j, .str (S w)])) H' /\ ∃ vs : List Pr, acc = prv vs /\ (∀ p ∈ vs, PrOk H' p) /\ vs.map Pr.pair = strUp band j w m /\ vs.length <= m) (by omega) ⟨Same.refl _, [], rfl, fun _ h => absurd h List.not_mem_nil, rfl, Nat.le_refl _⟩ ?_ ?_
      · rintro m l acc H4 T2 Nx hm hal ⟨s4, vs, rfl, hvs, hve, hvl⟩ nT2 nx
        have hmw : m < w.length := (List.getElem?_eq_some_iff.mp hm).1
        have es := strUp_succ (band := band) (c := j) hm
        rw [show onB band l = (decide (l = band) || decide (l = ctr band)) from rfl] at es
        refine ⟨T2, _, rfl, SqT.of upd_same, rfl, _, _, rfl, _, _, rfl, rfl, ?_⟩
        refine ⟨⟨rfl, rfl, trivial⟩, ?_⟩
        have s4T := Same.upd (o := .tup [.int m, .str (S [l])]) nT2
        refine ⟨_, rfl, _, rfl, _, rfl, band, rfl, hbl2, by show 2 <= sizeLine; decide, fun t nt => ?_⟩
        refine ⟨t, _, rfl, .inr (SqT.of upd_same), rfl, rfl, _, rfl, ?_⟩
        have s4t := s4T.trans (Same.upd (o := .tup [.str (S [band]), .str (S [ctr band])]) nt)
        generalize upd (upd H4 T2 (.tup [.int m, .str (S [l])])) t (.tup [.str (S [band]), .str (S [ctr band])]) = H5 at s4t ⊢
        show if inV (.str (S [l])) [.str (S [band]), .str (S [ctr band])] = true then _ else _
        rw [inV_two]
        refine ite2 (fun z => ?_) (fun z => ?_)
        · rw [if_pos z] at es
          refine ⟨_, rfl, _, rfl, by show 2 <= sizeLine; decide, fun t2 nt2 => ?_⟩
          refine nx _ _ (by simpa using hal) ⟨(s4.trans s4t).trans (Same.upd nt2), vs ++ [⟨t2, j, m⟩], prv_snoc vs ⟨t2, j, m⟩, fun p hp => ?_, by rw [List.map_append, hve, es]; rfl, by rw [List.length_append]; show vs.length + 1 <= _; omega⟩
          rcases List.mem_append.mp hp with g | g
          · exact (hvs p g).same (s4t.trans (Same.upd nt2))
          · have e2 := List.mem_singleton.mp g
            subst e2
            exact ⟨upd_same, by show j < 1000; omega, by show m < 1000; omega⟩
        · rw [if_neg z, List.append_nil] at es
          exact nx _ _ (Nat.le_succ_of_le hal) ⟨s4.trans s4t, vs, rfl, fun p hp => (hvs p hp).same s4t, by rw [es]; exact hve, by omega⟩
      · rintro acc H4 D hal ⟨s4, vs, rfl, hvs, hve, hvl⟩ hD
        have hp4 := s4 _ _ hp3T
        refine ⟨p3, D, _, _, rfl, rfl, (Same.upd hD) _ _ hp4, upd_same, by rw [prv_len, prv_len]; omega, ?_⟩
        rw [prv_app]
        have s34 : Same H3 (upd H4 D (.lst (prv vs))) := (s3T.trans s4).trans (Same.upd hD)
        have hp4D := (Same.upd (o := .lst (prv vs)) hD) _ _ hp4
        have n3H : H2 p3 = none := n3
        refine ⟨ps ++ vs, _, _, rfl, upd_same, fun p hp => ?_, by rw [List.map_append, hpe, hve, strAll_succ hjw], by rw [List.length_append]; omega, fun a o ea => by rw [upd_ne (ne_of_none ea n3H)]; exact s34 _ _ (s3 a o ea)⟩
        rcases List.mem_append.mp hp with g | g
        · exact ((hps p g).same s34).ts (TSame.updL hp4D)
        · exact ((hvs p g).same (Same.upd hD)).ts (TSame.updL hp4D)
    · rintro σ H3 ⟨ps, cv3, wv3, rfl, hp3, hps, hpe, hpl, s3⟩
      rw [txs_len] at hpe hpl
      have hb3 := hb2.same s3
      have b3 : p3 ≠ b := hb2.ne n3
      have hp13 := s3 _ _ hp1
      refine ⟨_, rfl, .inl ⟨rfl, _, SqL.of hp13⟩, ?_⟩
      refine ⟨_, rfl, _, rfl, b, .ref p3, prv ps, rfl, hb3, .inl ⟨p3, rfl, .inl (SqL.of hp3)⟩, by rw [prv_len]; omega, fun qa ys H4 nq qb hq hperm hb4 s4 => ?_⟩
      obtain ⟨ps', e1, e2⟩ := perm_unmap (f := fun p : Pr => V.ref p.t) hperm ps rfl
      have e3 : ys = prv ps' := e1
      subst e3
      have ts34 := TSame.box hb3 s4
      refine ⟨qa, _, rfl, .inl ⟨SqL.of hq, fun t nt => ?_⟩⟩
      have s2t : SameB b H2 (upd H4 t (.tup (prv ps'))) := ((SameB.of s3).trans s4).after (Same.upd nt)
      have hp14 := s2t _ _ hp1 bp1
      have ts4t : TSame H4 (upd H4 t (.tup (prv ps'))) := TSame.updN nt
      refine ⟨p1, _, _, rfl, rfl, hp14, by rw [odv_len]; omega, ?_⟩
      have tsA := (ts34.trans ts4t).trans (TSame.updL (o := .lst (odv os ++ [.ref t])) hp14)
      have hsub : ∀ p ∈ ps', p ∈ ps := fun p hp => e2.mem_iff.mp hp
      have hlen := e2.length_eq
      refine ⟨os ++ [⟨t, ps'⟩], _, _, _, _, rfl, by rw [upd_same]; exact congrArg (fun x => some (HO.lst x)) (odv_snoc os ⟨t, ps'⟩), by rw [upd_ne (Ne.symm p12)]; exact s2t _ _ hp2 bp2, by simp [hol], fun o ho => ?_, fun j o c hj hc => ?_, ?_, ?_⟩
      · rcases List.mem_append.mp ho with g | g
        · exact ((hod o g).same s3).ts tsA
        · have eo := List.mem_singleton.mp g
          subst eo
          refine ⟨?_, fun p hp => (hps p (hsub p hp)).ts tsA, by show ps'.length <= 100; omega⟩
          exact (TSame.updL (o := .lst (odv os ++ [.ref t])) hp14) _ _ upd_same
      · by_cases hlt : j < os.length
        · rw [List.getElem?_append_left hlt] at hj
          exact hos j o c hj hc
        · have hj2 : j = os.length := by
            have := (List.getElem?_eq_some_iff.mp hj).1
            rw [List.length_append] at this
            have : j < os.length + 1 := this
            omega
          subst hj2
          rw [List.getElem?_append_right (Nat.le_refl _), Nat.sub_self] at hj
          have eo : (⟨t, ps'⟩ : Od) = o := by simpa using hj
          rw [hol, hband] at hc
          have ec : band = c := Option.some.inj hc
          subst eo
          subst ec
          exact (e2.map Pr.pair).trans (by rw [hpe])
      · exact ((hb4.same (Same.upd nt)).updN bp1)
      · exact (s2.trans s2t).updN n1
  · rintro σ H2 ⟨os, bv, sv, cv, wv, rfl, hp1, hp2, hol, hod, hos, hb2, s2⟩
    rw [sgs_len] at hol
    have hwt2 := s2 _ _ hwt hwb
    refine ⟨_, rfl, wt, _, rfl, .inr ⟨SqT.of hwt2, ?_⟩⟩
    refine ⟨_, rfl, p1, _, rfl, .inl ⟨SqL.of hp1, fun t nt => ?_⟩⟩
    refine ⟨by show 2 <= sizeLine; decide, fun dr ndr => ?_⟩
    have nt0 : H t = none := s2.none nt (hb2.ne nt)
    have sA : Same H2 (upd (upd H2 t (.tup (odv os))) dr (.tup [.ref wt, .ref t])) := (Same.upd nt).trans (Same.upd ndr)
    have htd : t ≠ dr := fun z => by rw [<- z, upd_same] at ndr; cases ndr
    refine q dr os _ ⟨⟨wt, t, upd_same, sA _ _ hwt2, by rw [upd_ne htd, upd_same]⟩, fun o ho => (hod o ho).same sA⟩ ⟨hol, hos⟩ (hb2.same sA) (s2.after sA)
theorem ok_foreign_sign : FnOk P w K mg base CX0 1 f1 d1 ["yard", "text"] (sp_foreign_sign K) := by
  refine T.F1.fn.ok sc_foreign_sign (fun vs H Q E h => len_foreign_sign h) (fun cdv A outer s H vs Q E hr h => ?_)
  refine ⟨_, (pss_cons (ps_for PassesOwn.never rfl (pi_enumS rfl T.z_enumerate (pa_cons (pv 1) pa_nil)) (pg_tupK (n := 2) K rfl rfl (pgs_cons (pg_name (i := 2) sc_foreign_sign.nd rfl (Or.inl rfl)) (pgs_cons (pg_name (i := 3) sc_foreign_sign.nd rfl (Or.inl rfl)) pgs_nil))) (pss_one (ps_if (pt_cmpR op_ninS (pv 3) (pv 0) (by with_unfolding_all rfl)) (pss_one (ps_ret (pv 2))) pss_nil)))
      (pss_one (ps_ret pe_non))), ?_⟩
  obtain ⟨y, w, rfl, hw, q⟩ := h
  refine ⟨_, rfl, w, rfl, ?_⟩
  refine for_enum (fun i σ H' => ∃ av sv : Option V, σ = [some (.str (S y)), some (.str (S w)), av, sv] /\ Same H H') ⟨none, none, rfl, Same.refl H⟩ ?_ ?_
  · rintro i c σ H1 T hc ⟨av, sv, rfl, s1⟩ nT
    refine ⟨T, _, rfl, SqT.of upd_same, rfl, _, _, rfl, _, _, rfl, rfl, ?_⟩
    refine ⟨_, rfl, _, rfl, c, y, rfl, rfl, _, rfl, iteN (by simp [hw c (List.mem_of_getElem? hc)]) ?_⟩
    exact ⟨_, _, rfl, s1.trans (Same.upd nT)⟩
  · rintro σ H1 ⟨av, sv, rfl, s1⟩
    exact q _ s1
theorem ok_look_words : FnOk P w K mg base CX0 2 f10 d10 ["yard", "words"] (sp_look_words K) := by
  have G_foreign_sign := ok_foreign_sign (P := P) (w := w) (base := base) T
  refine T.F10.fn.ok sc_look_words (fun vs H Q E h => len_look_words h) (fun cdv A outer s H vs Q E hr h => ?_)
  refine ⟨_, (pss_one (ps_for PassesOwn.never rfl (pi_enumT K rfl rfl T.z_enumerate (pa_cons (pv 1) pa_nil)) (pg_tupK (n := 2) K rfl rfl (pgs_cons (pg_name (i := 2) sc_look_words.nd rfl (Or.inl rfl)) (pgs_cons (pg_name (i := 3) sc_look_words.nd rfl (Or.inl rfl)) pgs_nil))) (pss_one (ps_if (pt_cmpR op_notN (pe_call G_foreign_sign (hr.mono (by decide)) rfl T.F1.mg T.F1.fn.kp T.F1.bd .nil pass0 (pa_cons (pv 0) (pa_cons (pv 3) pa_nil))) pe_non (nomark _)) (pss_one ps_never) pss_nil)))), ?_⟩
  obtain ⟨y, wt, ws, rfl, hwt, hw, q⟩ := h
  refine ⟨_, rfl, wt, rfl, ⟨_, SqT.of hwt⟩, ?_⟩
  refine for_enumT (K := K) (a := wt) (xs := txs ws) (fun i σ H' => ∃ av sv : Option V, σ = [some (.str (S y)), some (.ref wt), av, sv] /\ Same H H') ⟨none, none, rfl, Same.refl H⟩ (fun i σ H' _ ⟨_, _, _, h⟩ => SqT.of (h _ _ hwt)) ?_ ?_
  · rintro i x σ H1 T hx ⟨av, sv, rfl, s1⟩ nT
    have hi : i < ws.length := by
      have := (List.getElem?_eq_some_iff.mp hx).1
      rwa [txs_len] at this
    rw [txs_at hi] at hx
    cases hx
    refine ⟨T, _, rfl, SqT.of upd_same, rfl, _, _, rfl, _, _, rfl, rfl, ?_⟩
    refine ⟨_, rfl, _, rfl, y, ws[i], rfl, hw _ (List.getElem_mem hi), fun H2 s2 => ?_⟩
    refine ⟨rfl, _, rfl, iteN (by simp) ?_⟩
    exact ⟨_, _, rfl, (s1.trans (Same.upd nT)).trans s2⟩
  · rintro σ H1 ⟨av, sv, rfl, s1⟩
    exact q _ s1
theorem ok_strands_in : FnOk P w K mg base CX0 1 f9 d9 ["words", "band"] (sp_strands_in K) := by
  refine T.F9.fn.ok sc_strands_in (fun vs H Q E h => len_strands_in h) (fun cdv A outer s H vs Q E hr h => ?_)
  refine ⟨_, (pss_cons (ps_set (i := 2) sc_strands_in.nd rfl (Or.inl rfl) (pe_lst pa_nil))
      (pss_cons (ps_for PassesOwn.never rfl (pi_enumT K rfl rfl T.z_enumerate (pa_cons (pv 0) pa_nil)) (pg_tupK (n := 2) K rfl rfl (pgs_cons (pg_name (i := 3) sc_strands_in.nd rfl (Or.inl rfl)) (pgs_cons (pg_name (i := 4) sc_strands_in.nd rfl (Or.inl rfl)) pgs_nil))) (pss_one (ps_for PassesOwn.never rfl (pi_enumS rfl T.z_enumerate (pa_cons (pv 4) pa_nil)) (pg_tupK (n := 2) K rfl rfl (pgs_cons (pg_name (i := 5) sc_strands_in.nd rfl (Or.inl rfl)) (pgs_cons (pg_name (i := 6) sc_strands_in.nd rfl (Or.inl rfl)) pgs_nil))) (pss_one (ps_if (pt_cmpR op_eqS (pe_bm0K K rfl PySem.F.plainAttrs_str PySem.F.slot_str_lower PySem.F.type_str_lower mt_lower (pv 6)) (pv 1) (nomark _)) (pss_one (ps_expr (pe_bmK K rfl PySem.F.plainAttrs_list PySem.F.slot_list_append PySem.F.type_list_append mt_append (pv 2) (pa_cons (pe_tup (pa_cons (pv 3) (pa_cons (pv 5) pa_nil))) pa_nil)))) pss_nil)))))
      (pss_one (ps_ret (pv 2))))), ?_⟩
  obtain ⟨wt, ws, band, rfl, hwt, hf, hw, hb, q⟩ := h
  have hs : (100000 : Nat) < sizeLine := by decide
  (repeat (first | refine ⟨_, rfl, ?_⟩ | refine ⟨_, _, rfl, rfl, ?_⟩ | refine ⟨_, _, _, rfl, rfl, by first | assumption | omega, by assumption, ?_⟩ | refine ⟨rfl, ?_⟩ | refine And.intro (by first | decide | omega | assumption | exact Nat.le_of_ble_eq_true rfl | exact .inl ⟨by decide, by decide⟩ | exact .inr ⟨by decide, by decide⟩ | exact ⟨by decide, by decide⟩ | exact ⟨by omega, by omega⟩) ?_))
  intro p1 n1
  refine ⟨_, rfl, wt, rfl, ⟨_, SqT.of ((Same.upd n1) _ _ hwt)⟩, ?_⟩
  refine for_enumT (K := K) (a := wt) (xs := txs ws) (fun j σ H' => ∃ (ps : List Pr) (cv wv pv lv : Option V), σ = [some (.ref wt), some (.str (S [band])), some (.ref p1), cv, wv, pv, lv] /\ H' p1 = some (.lst (prv ps)) /\ (∀ p ∈ ps, PrOk H' p) /\ ps.map Pr.pair = strAll band ws j /\ ps.length <= 12 * j /\ Same H H')
    ⟨[], none, none, none, none, rfl, upd_same, fun _ h => absurd h List.not_mem_nil, rfl, Nat.zero_le _, Same.upd n1⟩ (fun j σ H' _ ⟨_, _, _, _, _, _, _, _, _, _, h⟩ => SqT.of (h _ _ hwt)) ?_ ?_
  · rintro j x σ H1 T hx ⟨ps, cv, wv, pv, lv, rfl, hp, hps, hpe, hpl, s1⟩ nT
    have hj : j < ws.length := by
      have := (List.getElem?_eq_some_iff.mp hx).1
      rwa [txs_len] at this
    rw [txs_at hj] at hx
    cases hx
    have hjw : ws[j]? = some ws[j] := List.getElem?_eq_getElem hj
    obtain ⟨hwl, hwz⟩ := hw _ (List.getElem_mem hj)
    generalize ws[j] = w at hjw hwl hwz ⊢
    refine ⟨T, _, rfl, SqT.of upd_same, rfl, _, _, rfl, _, _, rfl, rfl, ?_⟩
    have sT := Same.upd (o := .tup [.int j, .str (S w)]) nT
    refine ⟨_, rfl, w, rfl, ?_⟩
    refine for_enum (l := w) (fun m σ H' => ∃ (us : List Pr) (pv lv : Option V), σ = [some (.ref wt), some (.str (S [band])), some (.ref p1), some (.int j), some (.str (S w)), pv, lv] /\ H' p1 = some (.lst (prv us)) /\ (∀ p ∈ us, PrOk H' p) /\ us.map Pr.pair = strAll band ws j ++ strUp band j w m /\ us.length <= 12 * j + m /\ Same H H')
      ⟨ps, pv, lv, rfl, sT _ _ hp, fun p hp' => (hps p hp').same sT, by rw [hpe]; show _ = _ ++ []; rw [List.append_nil], by omega, s1.trans sT⟩ ?_ ?_
    · rintro m l σ H2 T2 hm ⟨us, pv2, lv2, rfl, hp2, hus, hue, hul, s2⟩ nT2
      have hmw : m < w.length := (List.getElem?_eq_some_iff.mp hm).1
      have hll := hwl l (List.mem_of_getElem? hm)
      have es := strUp_succ (band := band) (c := j) hm
      have sT2 := Same.upd (o := .tup [.int m, .str (S [l])]) nT2
      refine ⟨T2, _, rfl, SqT.of upd_same, rfl, _, _, rfl, _, _, rfl, rfl, ?_⟩
      refine ⟨_, rfl, rfl, l, rfl, rfl, hll.lt, _, rfl, [PyProof.Rows.lo1 l], [band], rfl, rfl, _, rfl, ?_⟩
      have ev : decide ([PyProof.Rows.lo1 l] = [band]) = onB band l := by rw [<- low_on hb hll]; simp
      rw [ev]
      have hp2' := sT2 _ _ hp2
      refine ite2 (fun z => ?_) (fun z => ?_)
      · rw [if_pos z] at es
        refine ⟨_, rfl, .inl ⟨rfl, _, SqL.of hp2'⟩, _, rfl, _, rfl, by show 2 <= sizeLine; decide, fun t nt => ?_⟩
        have hp3 := (Same.upd (o := .tup [.int j, .int m]) nt) _ _ hp2'
        have s3 := sT2.trans (Same.upd (o := .tup [.int j, .int m]) nt)
        refine ⟨p1, _, _, rfl, rfl, hp3, by rw [prv_len]; omega, ?_⟩
        refine ⟨us ++ [⟨t, j, m⟩], _, _, rfl, by rw [upd_same]; exact congrArg (fun x => some (HO.lst x)) (prv_snoc us ⟨t, j, m⟩), fun p hp' => ?_, by rw [List.map_append, hue, es, List.append_assoc]; rfl, by rw [List.length_append]; show us.length + 1 <= _; omega, fun a o ea => by rw [upd_ne (ne_of_none ea n1)]; exact s3 _ _ (s2 a o ea)⟩
        rcases List.mem_append.mp hp' with g | g
        · exact ((hus p g).same s3).ts (TSame.updL hp3)
        · have e2 := List.mem_singleton.mp g
          subst e2
          exact PrOk.ts (H := upd (upd H2 T2 (.tup [.int m, .str (S [l])])) t (.tup [.int j, .int m])) ⟨upd_same, by show j < 1000; omega, by show m < 1000; omega⟩ (TSame.updL hp3)
      · rw [if_neg z, List.append_nil] at es
        exact ⟨us, _, _, rfl, hp2', fun p hp' => (hus p hp').same sT2, by rw [hue, es], by omega, s2.trans sT2⟩
    · rintro σ H2 ⟨us, pv2, lv2, rfl, hp2, hus, hue, hul, s2⟩
      exact ⟨us, _, _, _, _, rfl, hp2, hus, by rw [hue, strAll_succ hjw], by omega, s2⟩
  · rintro σ H1 ⟨ps, cv, wv, pv, lv, rfl, hp, hps, hpe, hpl, s1⟩
    rw [txs_len] at hpe
    exact ⟨_, rfl, q p1 ps H1 n1 hp hps hpe s1⟩
theorem ok_look_orders : FnOk P w K mg base CX0 2 f11 d11 ["yard", "words", "orders"] (sp_look_orders K) := by
  have G_bands := ok_bands (P := P) (w := w) (base := base) T
  have G_strands_in := ok_strands_in (P := P) (w := w) (base := base) T
  refine T.F11.fn.ok sc_look_orders (fun vs H Q E h => len_look_orders h) (fun cdv A outer s H vs Q E hr h => ?_)
  refine ⟨_, (pss_cons (ps_set (i := 3) sc_look_orders.nd rfl (Or.inl rfl) (pe_call G_bands (hr.mono (by decide)) rfl T.F2.mg T.F2.fn.kp T.F2.bd .nil pass0 (pa_cons (pv 0) pa_nil)))
      (pss_cons (ps_if (pt_cmpR op_neI (pe_callB (call_len_seqK K rfl) rfl T.z_len PySem.boot_len (pa_cons (pv 2) pa_nil)) (pe_callB call_lenS rfl T.z_len PySem.boot_len (pa_cons (pv 3) pa_nil)) (nomark _)) (pss_one ps_never) pss_nil)
      (pss_one (ps_for PassesOwn.never rfl (pi_enumS rfl T.z_enumerate (pa_cons (pv 3) pa_nil)) (pg_tupK (n := 2) K rfl rfl (pgs_cons (pg_name (i := 4) sc_look_orders.nd rfl (Or.inl rfl)) (pgs_cons (pg_name (i := 5) sc_look_orders.nd rfl (Or.inl rfl)) pgs_nil))) (pss_one (ps_if (pt_cmpR (op_neD K rfl hr) (pe_callB (call_sortedA K rfl) rfl T.z_sorted boot_sorted (pa_cons (pe_ix (ix_tupK K rfl) (pv 2) (pv 4) (fun _ _ => rfl)) pa_nil)) (pe_call G_strands_in (hr.mono (by decide)) rfl T.F9.mg T.F9.fn.kp T.F9.bd .nil pass0 (pa_cons (pv 1) (pa_cons (pv 5) pa_nil))) (nomark _)) (pss_one ps_never) pss_nil)))))), ?_⟩
  obtain ⟨y, wt, ot, ws, os, rfl, hy, hz, hws, hwt, hot, hod, hex, q⟩ := h
  have hs : (100000 : Nat) < sizeLine := by decide
  have hy8 : ∀ c ∈ y, c < 128 := lt128 hy.lt
  have hbl := bsOf_len hy
  have hlen : os.length = (bsOf y).length := hex.1
  have hwl : ∀ w ∈ ws, (∀ c ∈ w, Lt c) /\ w.length <= 12 := fun w hw => ⟨fun c hc => hy.lt c ((hws.all w hw).1 c hc), (hws.all w hw).2⟩
  refine ⟨_, rfl, y, rfl, hy8, by omega, fun l' H1 hl' hw' s1 => ?_⟩
  have el := bsOf_eq hl' hw'
  subst el
  refine ⟨_, rfl, ot, _, rfl, .inr (SqT.of (s1 _ _ hot)), _, rfl, bsOf y, rfl, by omega, _, _, rfl, rfl, _, rfl, iteN (by rw [odv_len, hlen]; simp) ?_⟩
  refine ⟨_, rfl, bsOf y, rfl, ?_⟩
  refine for_enum (fun i σ H' => ∃ av sv : Option V, σ = [some (.str (S y)), some (.ref wt), some (.ref ot), some (.str (S (bsOf y))), av, sv] /\ Same H H') ⟨none, none, rfl, s1⟩ ?_ ?_
  · rintro i b σ H2 T hb ⟨av, sv, rfl, s2⟩ nT
    have hi : i < (bsOf y).length := (List.getElem?_eq_some_iff.mp hb).1
    have hbs := bs_small hy (List.mem_of_getElem? hb)
    have hi2 : i < os.length := by omega
    have ho : os[i]? = some os[i] := List.getElem?_eq_getElem hi2
    have hom := List.getElem_mem hi2
    have hpe : (os[i].ps.map Pr.pair).Perm (strAll b ws ws.length) := hex.2 i _ b ho hb
    generalize os[i] = o at ho hom hpe
    have sT := s2.trans (Same.upd (o := .tup [.int i, .str (S [b])]) nT)
    refine ⟨T, _, rfl, SqT.of upd_same, rfl, _, _, rfl, _, _, rfl, rfl, ?_⟩
    generalize upd H2 T (.tup [.int i, .str (S [b])]) = H3 at sT ⊢
    have ok := (hod o hom).same sT
    have hlz : o.ps.length <= 48 := by
      have h1 := strAll_len b (fun w hw => (hws.all w hw).2) ws.length (Nat.le_refl _)
      rw [<- hpe.length_eq, List.length_map] at h1
      have := hws.few
      omega
    refine ⟨_, rfl, _, rfl, ot, _, _, _, rfl, rfl, SqT.of (sT _ _ hot), atI_nat (odv_at ho), ?_⟩
    refine ⟨o.o, prv o.ps, (o.ps.map Pr.pair).map pz, rfl, .inr (SqT.of ok.tp), prs_of ok.pr, pz_nd (hpe.nodup_iff.mpr (strAll_nd2 b ws ws.length)), by rw [prv_len]; omega, fun qa idx hidx nq => ?_⟩
    obtain ⟨hip, hir⟩ := hidx
    rw [List.length_map, List.length_map] at hip
    have hin : ∀ i ∈ idx, i < o.ps.length := fun i hi => List.mem_range.mp (hip.mem_iff.mp hi)
    rw [pk_v o.ps idx hin]
    have hps0 : (pk o.ps idx).map Pr.pair = strAll b ws ws.length := rise_eq (((pk_perm hip).map Pr.pair).trans hpe) (pk_rise hin hir) (strAll_rise b ws ws.length (Nat.le_refl _))
    have okp : ∀ p ∈ pk o.ps idx, PrOk H3 p := fun p hp => ok.pr p ((pk_perm hip).mem_iff.mp hp)
    generalize pk o.ps idx = pp at hps0 okp ⊢
    have sQ := sT.trans (Same.upd (o := .lst (prv pp)) nq)
    refine ⟨_, rfl, _, rfl, wt, ws, b, rfl, sQ _ _ hwt, hws.few, hwl, hbs, fun q2 ps H4 nq2 hq2 hps hpe2 s4 => ?_⟩
    have hq4 := s4 _ _ (upd_same (H := H3) (a := qa) (o := HO.lst (prv pp)))
    have ok4 : ∀ p ∈ pp, PrOk H4 p := fun p hp => (okp p hp).same ((Same.upd (o := .lst (prv pp)) nq).trans s4)
    have ly : PyData.canLayAll0 ((pp.map Pr.pair).map prD) = true := (sms_prs (k := 0) okp).ly
    have dp : (PyData.list ((pp.map Pr.pair).map prD)).depth <= 60 := Nat.le_trans (Nat.succ_le_succ (sms_prs (k := 0) okp).dp) (by decide)
    refine ⟨.list ((pp.map Pr.pair).map prD), .list ((pp.map Pr.pair).map prD), .lst (SqL.of hq4) (rdds_prs ok4), .lst (SqL.of hq2) (by rw [hps0, <- hpe2]; exact rdds_prs hps), ⟨ly, ly⟩, dp, ?_⟩
    rw [eqv_refl _ (by show PyData.hasDictAll _ = false; exact dict_prs _)]
    refine ⟨_, rfl, iteN rfl ?_⟩
    exact ⟨_, _, rfl, sQ.trans s4⟩
  · rintro σ H2 ⟨av, sv, rfl, s2⟩
    exact q _ s2
theorem ok_look_drawing : FnOk P w K mg base CX0 3 f12 d12 ["yard", "drawing"] (sp_look_drawing K) := by
  have G_look_words := ok_look_words (P := P) (w := w) (base := base) T
  have G_look_orders := ok_look_orders (P := P) (w := w) (base := base) T
  refine T.F12.fn.ok sc_look_drawing (fun vs H Q E h => len_look_drawing h) (fun cdv A outer s H vs Q E hr h => ?_)
  refine ⟨_, (pss_cons (ps_expr (pe_call G_look_words (hr.mono (by decide)) rfl T.F10.mg T.F10.fn.kp T.F10.bd .nil pass0 (pa_cons (pv 0) (pa_cons (pe_ix (ix_tupK K rfl) (pv 1) pe_int (fun _ _ => rfl)) pa_nil))))
      (pss_cons (ps_expr (pe_call G_look_orders (hr.mono (by decide)) rfl T.F11.mg T.F11.fn.kp T.F11.bd .nil pass0 (pa_cons (pv 0) (pa_cons (pe_ix (ix_tupK K rfl) (pv 1) pe_int (fun _ _ => rfl)) (pa_cons (pe_ix (ix_tupK K rfl) (pv 1) pe_int (fun _ _ => rfl)) pa_nil)))))
      (pss_one (ps_ret pe_bl)))), ?_⟩
  obtain ⟨y, dr, ws, os, rfl, hy, hz, hws, hd, hex, q⟩ := h
  obtain ⟨⟨wt, ot, d1, d2, d3⟩, dO⟩ := hd
  refine ⟨_, rfl, _, rfl, dr, _, 0, _, rfl, rfl, SqT.of d1, rfl, ?_⟩
  refine ⟨y, wt, ws, rfl, d2, fun w hw => (hws.all w hw).1, fun H1 s1 => ?_⟩
  refine ⟨_, rfl, _, rfl, dr, _, 0, _, rfl, rfl, SqT.of (s1 _ _ d1), rfl, _, rfl, dr, _, 1, _, rfl, rfl, SqT.of (s1 _ _ d1), rfl, ?_⟩
  refine ⟨y, wt, ot, ws, os, rfl, hy, hz, hws, s1 _ _ d2, s1 _ _ d3, fun o ho => (dO o ho).same s1, hex, fun H2 s2 => ?_⟩
  exact q _ (s1.trans s2)
theorem ok_Lrenumbered : FnOk P w K mg base CX0 1 f24 d24 ["_law_told", "_law_c", "_law_many"] (sp_Lrenumbered K) := by
  refine T.F24.fn.ok sc_Lrenumbered (fun vs H Q E h => len_Lrenumbered h) (fun cdv A outer s H vs Q E hr h => ?_)
  refine ⟨_, (pss_cons (ps_set (i := 3) sc_Lrenumbered.nd rfl (Or.inl rfl) (pe_lst pa_nil))
      (pss_cons (ps_for PassesOwn.never rfl (pi_listK K rfl (pv 0)) (pg_name (i := 4) sc_Lrenumbered.nd rfl (Or.inl rfl)) (pss_cons (ps_set (i := 5) sc_Lrenumbered.nd rfl (Or.inl rfl) (pe_lst pa_nil))
      (pss_cons (ps_for PassesOwn.never rfl (pi_tupK K rfl (pe_tup (pa_cons (pe_slice (sl_tupK K rfl) (pv 4) po_none (po_some pe_int)) (pa_cons (pe_slice (sl_tupK K rfl) (pv 4) (po_some pe_int) po_none) pa_nil)))) (pg_tupK (n := 2) K rfl rfl (pgs_cons (pg_name (i := 6) sc_Lrenumbered.nd rfl (Or.inl rfl)) (pgs_cons (pg_name (i := 7) sc_Lrenumbered.nd rfl (Or.inl rfl)) pgs_nil))) (pss_one (ps_expr (pe_bmK K rfl PySem.F.plainAttrs_list PySem.F.slot_list_append PySem.F.type_list_append mt_append (pv 5) (pa_cons (pe_tup (pa_cons (pv 6) (pa_cons (pe_ix (ix_listK K rfl) (pe_lst (pa_cons (pv 7) (pa_cons (pe_op op_mod (pe_op op_sub (pe_op op_add (pv 7) (pv 2)) pe_int) (pe_callB (call_max2 rfl) rfl T.z_max boot_max (pa_cons pe_int (pa_cons (pv 2) pa_nil)))) pa_nil))) (pe_callTy call_int1 rfl T.z_int boot_int (pa_cons (pe_cmpR op_eqI (pv 6) (pv 1) (nomark _)) pa_nil)) (fun _ _ => rfl)) pa_nil))) pa_nil)))))
      (pss_cons (ps_set (i := 5) sc_Lrenumbered.nd rfl (Or.inl rfl) (pe_callB (call_sortedA K rfl) rfl T.z_sorted boot_sorted (pa_cons (pv 5) pa_nil)))
      (pss_one (ps_expr (pe_bmK K rfl PySem.F.plainAttrs_list PySem.F.slot_list_append PySem.F.type_list_append mt_append (pv 3) (pa_cons (pe_op (op_catTK K rfl) (pe_ix (ix_listK K rfl) (pv 5) pe_int (fun _ _ => rfl)) (pe_ix (ix_listK K rfl) (pv 5) pe_int (fun _ _ => rfl))) pa_nil))))))))
      (pss_one (ps_ret (pe_callB (call_sortedN K rfl) rfl T.z_sorted boot_sorted (pa_cons (pv 3) pa_nil)))))), ?_⟩
  obtain ⟨t, c, n, qs, rfl, ht, hq, hz, hc, hn, hx, hnd, q⟩ := h
  have hs : (100000 : Nat) < sizeLine := by decide
  refine ⟨by show 0 <= sizeLine; decide, fun p1 n1 => ?_⟩
  refine ⟨_, rfl, t, rfl, ⟨_, SqL.of ((Same.upd n1) _ _ ht)⟩, ?_⟩
  refine for_list (K := K) (a := t) (xs := q4v qs) (fun i σ H' => ∃ (rs : List Q4) (av bv cv dv : Option V), σ = [some (.ref t), some (.int c), some (.int n), some (.ref p1), av, bv, cv, dv] /\ H' p1 = some (.lst (q4v rs)) /\ (∀ x ∈ rs, Q4Ok H' x) /\ rs.map Q4.v = ((qs.take i).map Q4.v).map (renum c n) /\ Same H H')
    ⟨[], none, none, none, none, rfl, upd_same, fun _ h => absurd h List.not_mem_nil, rfl, Same.upd n1⟩ (fun i σ H' _ ⟨_, _, _, _, _, _, _, _, _, h⟩ => SqL.of (h _ _ ht)) ?_ ?_
  · rintro i x σ H1 hxi ⟨rs, av, bv, cv, dv, rfl, hp1, hrs, hrv, s1⟩
    obtain ⟨qq, hqq, rfl⟩ := q4v_at hxi
    have hqm := List.mem_of_getElem? hqq
    have ok : Q4Ok H1 qq := s1 _ _ (hq qq hqm)
    obtain ⟨⟨b1, b2, b3, b4⟩, g1, g2, gne⟩ := hx qq hqm
    refine ⟨by show 0 <= sizeLine; decide, fun p3 n3 => ?_⟩
    have s2 := Same.upd (o := HO.lst []) n3
    have hp3 : upd H1 p3 (HO.lst []) p3 = some (HO.lst (prv [])) := upd_same
    generalize upd H1 p3 (HO.lst []) = H2 at s2 hp3 ⊢
    refine ⟨_, rfl, 2, rfl, qq.t, _, rfl, SqT.of (s2 _ _ ok), fun z => absurd (show (2 : Nat) = 4 from z.2) (by decide), fun u1 nu1 => ?_⟩
    have s3 := Same.upd (o := HO.tup [.int qq.v.1, .int qq.v.2.1]) nu1
    have hu1 : upd H2 u1 (HO.tup [.int qq.v.1, .int qq.v.2.1]) u1 = some (HO.tup [.int qq.v.1, .int qq.v.2.1]) := upd_same
    show tSl _ _ _ _ _ (upd H2 u1 (HO.tup [.int qq.v.1, .int qq.v.2.1])) _
    generalize upd H2 u1 (HO.tup [.int qq.v.1, .int qq.v.2.1]) = H3 at s3 hu1 ⊢
    refine ⟨_, rfl, 2, rfl, qq.t, _, rfl, SqT.of (s3 _ _ (s2 _ _ ok)), fun z => absurd (show (2 : Nat) = 0 from z.1) (by decide), fun u2 nu2 => ?_⟩
    rw [show cutV [V.int (qq.v.1 : Nat), V.int (qq.v.2.1 : Nat), V.int (qq.v.2.2.1 : Nat), V.int (qq.v.2.2.2 : Nat)] (some 2) none = [.int qq.v.2.2.1, .int qq.v.2.2.2] from rfl]
    have s4 := Same.upd (o := HO.tup [.int qq.v.2.2.1, .int qq.v.2.2.2]) nu2
    have hu2 : upd H3 u2 (HO.tup [.int qq.v.2.2.1, .int qq.v.2.2.2]) u2 = some (HO.tup [.int qq.v.2.2.1, .int qq.v.2.2.2]) := upd_same
    generalize upd H3 u2 (HO.tup [.int qq.v.2.2.1, .int qq.v.2.2.2]) = H4 at s4 hu2 ⊢
    refine ⟨by show 2 <= sizeLine; decide, fun tt ntt => ?_⟩
    have s5 := Same.upd (o := HO.tup [.ref u1, .ref u2]) ntt
    have htt : upd H4 tt (HO.tup [.ref u1, .ref u2]) tt = some (HO.tup [.ref u1, .ref u2]) := upd_same
    generalize upd H4 tt (HO.tup [.ref u1, .ref u2]) = H5 at s5 htt ⊢
    have s15 : Same H1 H5 := ((s2.trans s3).trans s4).trans s5
    have hu1' := s5 _ _ (s4 _ _ hu1)
    have hu2' := s5 _ _ hu2
    have hp35 := s5 _ _ (s4 _ _ (s3 _ _ hp3))
    refine ⟨tt, rfl, ⟨_, SqT.of htt⟩, ?_⟩
    refine for_tup (K := K) (a := tt) (xs := [.ref u1, .ref u2]) (fun j σ H' => ∃ (ps : List Pr) (cv dv : Option V), σ = [some (.ref t), some (.int c), some (.int n), some (.ref p1), some (.ref qq.t), some (.ref p3), cv, dv] /\ H' p3 = some (.lst (prv ps)) /\ (∀ p ∈ ps, PrOk H' p) /\ ps.map Pr.pair = [phi c n (qq.v.1, qq.v.2.1), phi c n (qq.v.2.2.1, qq.v.2.2.2)].take j /\ TSame H5 H' /\ Same H1 H')
      ⟨[], cv, dv, rfl, hp35, fun _ h => absurd h List.not_mem_nil, rfl, TSame.of (Same.refl _), s15⟩ (fun j σ H' _ ⟨_, _, _, _, _, _, _, h, _⟩ => SqT.of (h _ _ htt)) ?_ ?_
    · rintro j x σ H6 hxj ⟨ps, cv6, dv6, rfl, hp36, hps, hpe, ts6, s6⟩
      have hl2 : ps.length <= 2 := by
        have h := congrArg List.length hpe
        rw [List.length_map] at h
        rw [h]
        exact List.length_take_le' _ _
      obtain ⟨u, d, e, rfl, hu, hd, he, hde, hpe2⟩ : ∃ (u : Addr) (d e : Nat), x = .ref u /\ H6 u = some (.tup [.int d, .int e]) /\ d < 16 /\ e < 16 /\ (d = c -> e < n) /\ [phi c n (qq.v.1, qq.v.2.1), phi c n (qq.v.2.2.1, qq.v.2.2.2)].take (j + 1) = [phi c n (qq.v.1, qq.v.2.1), phi c n (qq.v.2.2.1, qq.v.2.2.2)].take j ++ [phi c n (d, e)] := by
        match j, hxj with
        | 0, h => cases h; exact ⟨u1, _, _, rfl, ts6 _ _ hu1', b1, b2, g1, rfl⟩
        | 1, h => cases h; exact ⟨u2, _, _, rfl, ts6 _ _ hu2', b3, b4, g2, rfl⟩
      refine ⟨u, _, rfl, SqT.of hu, rfl, _, _, rfl, _, _, rfl, rfl, ?_⟩
      refine ⟨_, rfl, .inl ⟨rfl, _, SqL.of hp36⟩, ?_⟩
      refine ⟨_, rfl, _, rfl, _, rfl, _, rfl, _, _, rfl, rfl, _, _, rfl, rfl, _, rfl, _, _, rfl, _, _, rfl, rfl, ?_, ?_⟩
      · show (0 : Int) < if (n : Int) > 1 then (n : Int) else 1
        split <;> omega
      refine ⟨by show 2 <= sizeLine; decide, fun p4 n4 => ?_⟩
      refine ⟨_, rfl, _, rfl, _, _, rfl, rfl, .inr ⟨_, rfl, p4, _, _, _, rfl, rfl, SqL.of upd_same, pick_phi hde, ?_⟩⟩
      refine ⟨by show 2 <= sizeLine; decide, fun p5 n5 => ?_⟩
      have s7 := (Same.upd n4).trans (Same.upd (o := HO.tup [.int d, .int ((phi c n (d, e)).2 : Nat)]) n5)
      have hp5 := upd_same (H := upd H6 p4 (HO.lst [V.int (e : Nat), V.int (((e : Int) + (n : Int) - 1) % (if (n : Int) > 1 then (n : Int) else 1))])) (a := p5) (o := HO.tup [.int d, .int ((phi c n (d, e)).2 : Nat)])
      generalize upd (upd H6 p4 (HO.lst [V.int (e : Nat), V.int (((e : Int) + (n : Int) - 1) % (if (n : Int) > 1 then (n : Int) else 1))])) p5 (HO.tup [.int d, .int ((phi c n (d, e)).2 : Nat)]) = H7 at s7 hp5 ⊢
      have hp37 := s7 _ _ hp36
      refine ⟨p3, _, _, rfl, rfl, hp37, by rw [prv_len]; omega, ?_⟩
      have tU := TSame.updL (o := HO.lst (prv ps ++ [.ref p5])) hp37
      refine ⟨ps ++ [⟨p5, d, (phi c n (d, e)).2⟩], _, _, rfl, by rw [upd_same]; exact congrArg (fun x => some (HO.lst x)) (prv_snoc ps ⟨p5, d, (phi c n (d, e)).2⟩), fun p hp => ?_, ?_, (ts6.trans (TSame.of s7)).trans tU, fun a o ea => by rw [upd_ne (ne_of_none ea n3)]; exact s7 _ _ (s6 a o ea)⟩
      · rcases List.mem_append.mp hp with g | g
        · exact ((hps p g).same s7).ts tU
        · have := List.mem_singleton.mp g
          subst this
          have := phi_small hde (Nat.le_of_lt hn) he
          exact ⟨tU _ _ hp5, by show d < 1000; omega, by show (phi c n (d, e)).2 < 1000; omega⟩
      · rw [List.map_append, hpe, hpe2]
        rfl
    · rintro σ H6 ⟨ps, cv6, dv6, rfl, hp36, hps, hpe, ts6, s6⟩
      replace hpe : ps.map Pr.pair = [phi c n (qq.v.1, qq.v.2.1), phi c n (qq.v.2.2.1, qq.v.2.2.2)] := hpe
      have hl2 : ps.length = 2 := by
        have h := congrArg List.length hpe
        rw [List.length_map] at h
        exact h
      refine ⟨_, rfl, p3, prv ps, (ps.map Pr.pair).map pz, rfl, .inl (SqL.of hp36), prs_of hps, pz_nd (by rw [hpe]; exact List.nodup_cons.mpr ⟨fun z => gne (List.mem_singleton.mp z), List.pairwise_singleton _ _⟩), by rw [prv_len]; omega, fun qa idx hidx nq => ?_⟩
      obtain ⟨hip, hir⟩ := hidx
      rw [List.length_map, List.length_map] at hip
      have hin : ∀ i ∈ idx, i < ps.length := fun i hi => List.mem_range.mp (hip.mem_iff.mp hi)
      rw [pk_v ps idx hin]
      have okp : ∀ p ∈ pk ps idx, PrOk H6 p := fun p hp => hps p ((pk_perm hip).mem_iff.mp hp)
      obtain ⟨P1, P2, hpk, hval⟩ := both_pick (((pk_perm hip).map Pr.pair).trans (by rw [hpe])) (pk_rise hin hir) gne
      rw [hpk] at okp ⊢
      have o1 := (okp P1 List.mem_cons_self).tp
      have o2 := (okp P2 (List.mem_cons_of_mem _ List.mem_cons_self)).tp
      have sQ := Same.upd (o := HO.lst (prv [P1, P2])) nq
      have hqa := upd_same (H := H6) (a := qa) (o := HO.lst (prv [P1, P2]))
      generalize upd H6 qa (HO.lst (prv [P1, P2])) = H7 at sQ hqa ⊢
      have hp17 := sQ _ _ (s6 _ _ hp1)
      have hlr : rs.length <= 4000 := by
        have h := congrArg List.length hrv
        rw [List.length_map, List.length_map, List.length_map, List.length_take] at h
        omega
      refine ⟨_, rfl, .inl ⟨rfl, _, SqL.of hp17⟩, _, rfl, qa, _, _, _, rfl, rfl, SqL.of hqa, atI_nat (j := 0) rfl, _, rfl, qa, _, _, _, rfl, rfl, SqL.of hqa, atI_nat (j := 1) rfl, P1.t, P2.t, _, _, rfl, rfl, SqT.of (sQ _ _ o1), SqT.of (sQ _ _ o2), List.cons_ne_nil _ _, by show 4 <= sizeLine; decide, fun z => absurd z (List.cons_ne_nil _ _), fun _ p6 n6 => ?_⟩
      have s8 := Same.upd (o := HO.tup [.int P1.c, .int P1.i, .int P2.c, .int P2.i]) n6
      have hp6 := upd_same (H := H7) (a := p6) (o := HO.tup [.int P1.c, .int P1.i, .int P2.c, .int P2.i])
      have hp18 := s8 _ _ hp17
      refine ⟨p1, _, _, rfl, rfl, hp18, by rw [q4v_len]; omega, ?_⟩
      have tU := TSame.updL (o := HO.lst (q4v rs ++ [.ref p6])) hp18
      refine ⟨rs ++ [⟨p6, (P1.c, P1.i, P2.c, P2.i)⟩], _, _, _, _, rfl, by rw [upd_same]; exact congrArg (fun x => some (HO.lst x)) (q4v_snoc rs ⟨p6, (P1.c, P1.i, P2.c, P2.i)⟩), fun p hp => ?_, ?_, fun a o ea => by rw [upd_ne (ne_of_none ea n1)]; exact s8 _ _ (sQ _ _ (s6 _ _ (s1 a o ea)))⟩
      · rcases List.mem_append.mp hp with g | g
        · exact (hrs p g).ts ((TSame.of ((s6.trans sQ).trans s8)).trans tU)
        · have := List.mem_singleton.mp g
          subst this
          exact tU _ _ hp6
      · rw [List.map_append, hrv, <- take_snoc hqq, List.map_append, List.map_append]
        show _ ++ [(P1.c, P1.i, P2.c, P2.i)] = _
        rw [hval]
        rfl
  · rintro σ H1 ⟨rs, av, bv, cv, dv, rfl, hp1, hrs, hrv, s1⟩
    rw [q4v_len, List.take_length] at hrv
    refine ⟨_, rfl, p1, q4v rs, (rs.map Q4.v).map r4, 3, rfl, .inl (SqL.of hp1), tps_of hrs, ?_, fun qa ys nq pm rise => ?_⟩
    · rw [hrv]
      show (List.map _ _).Pairwise (· ≠ ·)
      rw [List.pairwise_map]
      exact hnd.imp fun g z => g (r4_inj z)
    · obtain ⟨rs', e1, e2⟩ := perm_unmap (f := fun p : Q4 => V.ref p.t) pm rs rfl
      have e3 : ys = q4v rs' := e1
      subst e3
      have ok' : ∀ x ∈ rs', Q4Ok H1 x := fun x hx => hrs x (e2.mem_iff.mp hx)
      have ri := rise _ (tps_of ok')
      rw [List.pairwise_map] at ri
      exact q qa rs' _ upd_same (fun x hx => (ok' x hx).ts (TSame.updN nq)) (by rw [<- hrv]; exact e2.map _) ri (s1.trans (Same.upd nq))
theorem ok_law : FnOk P w K mg base CX0 6 f25 d25 ["_law_script"] (sp_law K) := by
  have G_Lbox := ok_Lbox (P := P) (w := w) (base := base) T
  have G_Lyard := ok_Lyard (P := P) (w := w) (base := base) T
  have G_Lwords := ok_Lwords (P := P) (w := w) (base := base) T
  have G_Ldrawing := ok_Ldrawing (P := P) (w := w) (base := base) T
  have G_meetings := ok_meetings (P := P) (w := w) (base := base) T
  have G_Ltake := ok_Ltake (P := P) (w := w) (base := base) T
  have G_Lbands := ok_Lbands (P := P) (w := w) (base := base) T
  have G_Lexchanged := ok_Lexchanged (P := P) (w := w) (base := base) T
  have G_Llater := ok_Llater (P := P) (w := w) (base := base) T
  have G_look_drawing := ok_look_drawing (P := P) (w := w) (base := base) T
  have G_Lrenumbered := ok_Lrenumbered (P := P) (w := w) (base := base) T
  have G_points := ok_points (P := P) (w := w) (base := base) T
  refine T.F25.fn.ok sc_law (fun vs H Q E h => len_law h) (fun cdv A outer s H vs Q E hr h => ?_)
  refine ⟨_, (pss_cons (ps_set (i := 1) sc_law.nd rfl (Or.inl rfl) (pe_call G_Lbox (hr.mono (by decide)) rfl T.F13.mg T.F13.fn.kp T.F13.bd .nil pass0 (pa_cons (pv 0) (pa_cons pe_int pa_nil))))
      (pss_cons (ps_set (i := 2) sc_law.nd rfl (Or.inl rfl) (pe_call G_Lyard (hr.mono (by decide)) rfl T.F16.mg T.F16.fn.kp T.F16.bd .nil pass0 (pa_cons (pv 1) (pa_cons pe_int (pa_cons pe_int pa_nil)))))
      (pss_cons (ps_set (i := 3) sc_law.nd rfl (Or.inl rfl) (pe_call G_Lwords (hr.mono (by decide)) rfl T.F21.mg T.F21.fn.kp T.F21.bd .nil pass0 (pa_cons (pv 1) (pa_cons (pv 2) pa_nil))))
      (pss_cons (ps_set (i := 4) sc_law.nd rfl (Or.inl rfl) (pe_call G_Ldrawing (hr.mono (by decide)) rfl T.F20.mg T.F20.fn.kp T.F20.bd .nil pass0 (pa_cons (pe_call G_Lbox (hr.mono (by decide)) rfl T.F13.mg T.F13.fn.kp T.F13.bd .nil pass0 (pa_cons (pv 0) (pa_cons pe_int pa_nil))) (pa_cons (pv 2) (pa_cons (pv 3) pa_nil)))))
      (pss_cons (ps_set (i := 5) sc_law.nd rfl (Or.inl rfl) (pe_call G_meetings (hr.mono (by decide)) rfl T.F8.mg T.F8.fn.kp T.F8.bd .nil pass0 (pa_cons (pv 2) (pa_cons (pv 4) pa_nil))))
      (pss_cons (ps_set (i := 1) sc_law.nd rfl (Or.inl rfl) (pe_call G_Lbox (hr.mono (by decide)) rfl T.F13.mg T.F13.fn.kp T.F13.bd .nil pass0 (pa_cons (pv 0) (pa_cons pe_int pa_nil))))
      (pss_cons (ps_set (i := 6) sc_law.nd rfl (Or.inl rfl) (pe_call G_Ltake (hr.mono (by decide)) rfl T.F14.mg T.F14.fn.kp T.F14.bd .nil pass0 (pa_cons (pv 1) (pa_cons (pe_callB call_lenS rfl T.z_len PySem.boot_len (pa_cons (pv 2) pa_nil)) pa_nil))))
      (pss_cons (ps_if (pt_cmpR (op_neD K rfl hr) (pe_call G_meetings (hr.mono (by decide)) rfl T.F8.mg T.F8.fn.kp T.F8.bd .nil pass0 (pa_cons (pe_op op_addS (pe_slice sl_S (pv 2) (po_some (pv 6)) po_none) (pe_slice sl_S (pv 2) po_none (po_some (pv 6)))) (pa_cons (pv 4) pa_nil))) (pv 5) (nomark _)) (pss_one (ps_ret pe_bl)) pss_nil)
      (pss_cons (ps_if (pt_cmpR (op_neD K rfl hr) (pe_call G_meetings (hr.mono (by decide)) rfl T.F8.mg T.F8.fn.kp T.F8.bd .nil pass0 (pa_cons (pe_revS (pv 2) (po_some (pe_un un_neg pe_int))) (pa_cons (pe_tup (pa_cons (pv 3) (pa_cons (pe_callTy (call_tuple_ofK K rfl) rfl T.z_tuple boot_tuple (pa_cons (pe_compB ["_law_order_here"] [none] (pi_tupK K rfl (pe_ix (ix_tupK K rfl) (pv 4) pe_int (fun _ _ => rfl))) trivial (fun _ _ _ _ => (pg_name (i := 0) (by decide +kernel : List.Nodup (["_law_order_here"] : List Str)) rfl (Or.inl rfl))) (fun _ _ _ _ => pf_nil) (fun _ _ _ _ => (pe_revT K rfl (pv 0) (po_some (pe_un un_neg pe_int))))) pa_nil)) pa_nil))) pa_nil))) (pv 5) (nomark _)) (pss_one (ps_ret pe_bl)) pss_nil)
      (pss_cons (ps_set (i := 7) sc_law.nd rfl (Or.inr rfl) (pe_call G_Lbands (hr.mono (by decide)) rfl T.F19.mg T.F19.fn.kp T.F19.bd .nil pass0 (pa_cons (pv 2) pa_nil)))
      (pss_cons (ps_set (i := 8) sc_law.nd rfl (Or.inr rfl) (pe_call G_Ltake (hr.mono (by decide)) rfl T.F14.mg T.F14.fn.kp T.F14.bd .nil pass0 (pa_cons (pv 1) (pa_cons (pe_callB (call_len_seqK K rfl) rfl T.z_len PySem.boot_len (pa_cons (pv 7) pa_nil)) pa_nil))))
      (pss_cons (ps_set (i := 9) sc_law.nd rfl (Or.inl rfl) (pe_op op_catA (pe_op op_catA (pe_slice sl_tupA (pe_ix (ix_tupK K rfl) (pv 4) pe_int (fun _ _ => rfl)) po_none (po_some (pv 8))) (pe_tup (pa_cons (pe_revT K rfl (pe_ix (ix_tupK K rfl) (pe_ix (ix_tupK K rfl) (pv 4) pe_int (fun _ _ => rfl)) (pv 8) (fun _ _ => rfl)) (po_some (pe_un un_neg pe_int))) pa_nil))) (pe_slice sl_tupA (pe_ix (ix_tupK K rfl) (pv 4) pe_int (fun _ _ => rfl)) (po_some (pe_op op_add (pv 8) pe_int)) po_none)))
      (pss_cons (ps_set (i := 10) sc_law.nd rfl (Or.inl rfl) (pe_tup (pa_cons (pe_callTy (call_tuple_ofK K rfl) rfl T.z_tuple boot_tuple (pa_cons (pe_compB ["_law_word_here", "_law_names", "_law_k"] [none, some 7, some 8] (pi_tupK K rfl (pv 3)) ⟨⟨rfl, rfl, by first | exact .inl rfl | exact .inr rfl⟩, ⟨⟨rfl, rfl, by first | exact .inl rfl | exact .inr rfl⟩, trivial⟩⟩ (fun _ _ _ _ => (pg_name (i := 0) (by decide +kernel : List.Nodup (["_law_word_here", "_law_names", "_law_k"] : List Str)) rfl (Or.inl rfl))) (fun _ _ _ _ => pf_nil) (fun _ _ _ _ => (pe_call G_Lexchanged (hr.mono (by decide)) rfl T.F22.mg T.F22.fn.kp T.F22.bd .nil pass0 (pa_cons (pv 0) (pa_cons (pe_ix (ix_listK K rfl) (pv 1) (pv 2) (fun _ _ => rfl)) pa_nil))))) pa_nil)) (pa_cons (pv 9) pa_nil))))
      (pss_cons (ps_if (pt_cmpR (op_neD K rfl hr) (pe_call G_meetings (hr.mono (by decide)) rfl T.F8.mg T.F8.fn.kp T.F8.bd .nil pass0 (pa_cons (pe_call G_Lexchanged (hr.mono (by decide)) rfl T.F22.mg T.F22.fn.kp T.F22.bd .nil pass0 (pa_cons (pv 2) (pa_cons (pe_ix (ix_listK K rfl) (pv 7) (pv 8) (fun _ _ => rfl)) pa_nil))) (pa_cons (pv 10) pa_nil))) (pv 5) (nomark _)) (pss_one (ps_ret pe_bl)) pss_nil)
      (pss_cons (ps_if (pt_cmpR op_gt (pe_callB (call_len_seqK K rfl) rfl T.z_len PySem.boot_len (pa_cons (pv 3) pa_nil)) pe_int (nomark _)) (pss_cons (ps_set (i := 11) sc_law.nd rfl (Or.inl rfl) (pe_call G_Ltake (hr.mono (by decide)) rfl T.F14.mg T.F14.fn.kp T.F14.bd .nil pass0 (pa_cons (pv 1) (pa_cons (pe_callB (call_len_seqK K rfl) rfl T.z_len PySem.boot_len (pa_cons (pv 3) pa_nil)) pa_nil))))
      (pss_cons (ps_set (i := 10) sc_law.nd rfl (Or.inl rfl) (pe_call G_Llater (hr.mono (by decide)) rfl T.F23.mg T.F23.fn.kp T.F23.bd .nil pass0 (pa_cons (pv 4) (pa_cons (pv 11) pa_nil))))
      (pss_cons (ps_if (pt_cmpR op_notB (pe_call G_look_drawing (hr.mono (by decide)) rfl T.F12.mg T.F12.fn.kp T.F12.bd .nil pass0 (pa_cons (pv 2) (pa_cons (pv 10) pa_nil))) pe_bl (nomark _)) (pss_one (ps_ret pe_bl)) pss_nil)
      (pss_one (ps_if (pt_cmpR (op_neD K rfl hr) (pe_call G_meetings (hr.mono (by decide)) rfl T.F8.mg T.F8.fn.kp T.F8.bd .nil pass0 (pa_cons (pv 2) (pa_cons (pv 10) pa_nil))) (pe_call G_Lrenumbered (hr.mono (by decide)) rfl T.F24.mg T.F24.fn.kp T.F24.bd .nil pass0 (pa_cons (pv 5) (pa_cons (pv 11) (pa_cons (pe_callB call_lenS rfl T.z_len PySem.boot_len (pa_cons (pe_ix (ix_tupK K rfl) (pv 3) (pv 11) (fun _ _ => rfl)) pa_nil)) pa_nil)))) (nomark _)) (pss_one (ps_ret pe_bl)) pss_nil))))) pss_nil)
      (pss_one (ps_ret (pe_cmpR op_eqI (pe_callB (call_len_seqK K rfl) rfl T.z_len PySem.boot_len (pa_cons (pe_call G_points (hr.mono (by decide)) rfl T.F4.mg T.F4.fn.kp T.F4.bd .nil pass0 (pa_cons (pv 2) (pa_cons (pv 4) pa_nil))) pa_nil)) (pe_op op_mul pe_int (pe_callB call_lenS rfl T.z_len PySem.boot_len (pa_cons (pe_bmK K rfl PySem.F.plainAttrs_str PySem.F.slot_str_join PySem.F.type_str_join (mt_joinT K rfl) (pe_S [] (by decide +kernel)) (pa_cons (pv 3) pa_nil)) pa_nil))) (nomark _))))))))))))))))))), ?_⟩
  obtain ⟨a, ns, rfl, hS, hl, q⟩ := h
  have hs : (100000 : Nat) < sizeLine := by decide
  refine ⟨_, rfl, a, ns, 0, rfl, hS, by decide, fun b H1 nb bx s1 => ?_⟩
  refine ⟨_, rfl, b, 1, 4, rfl, bx, by decide, by decide, by decide, fun y H2 hy hy1 hy2 bx2 s2 => ?_⟩
  have hyn : y ≠ [] := fun z => by rw [z] at hy1; simp at hy1
  refine ⟨_, rfl, _, rfl, b, y, rfl, bx2, hyn, by omega, fun wt ws H3 nwt wtb hwt hws bx3 s3 => ?_⟩
  have s03 : Same H H3 := SameB.same nb s1 (s2.trans s3)
  refine ⟨_, rfl, a, ns, 1, rfl, s03.seq hS, by decide, fun b2 H4 nb2 bx4 s4 => ?_⟩
  refine ⟨_, rfl, _, rfl, b2, y, wt, ws, rfl, bx4, hy, by omega, ne_of_none hwt nb2, s4 _ _ hwt, hws, fun dr os H5 hdr hos bx5 s5 => ?_⟩
  have s35 : Same H3 H5 := SameB.same nb2 s4 s5
  have s05 := s03.trans s35
  have hwt5 := s35 _ _ hwt
  have hyl : y.length <= 8 := by omega
  have hwf := hws.few
  refine ⟨_, rfl, _, rfl, y, dr, ws, os, rfl, hy, hyl, hws, hos, hdr, fun q1 qs1 H6 nq1 hq1 hk1 hv1 s6 => ?_⟩
  have hdr6 := hdr.same s6
  have hwt6 := s6 _ _ hwt5
  have hml := mtgs_len (os := os) hws
  have sm1 : SmD 40 100000 (.list ((mtgs y ws os).map qD)) := sm_q4 (mtgs_small (os := os) hws) (by omega)
  refine ⟨_, rfl, a, ns, 2, rfl, (s05.trans s6).seq hS, by decide, fun b3 H7 nb3 bx7 s7 => ?_⟩
  refine ⟨_, rfl, _, rfl, y, rfl, by omega, b3, _, rfl, bx7, by omega, by omega, fun r H8 hr bx8 s8 => ?_⟩
  have s68 := SameB.same nb3 s7 s8
  have hr2 : r < y.length := by omega
  refine ⟨_, rfl, _, rfl, _, rfl, y, rfl, by omega, _, rfl, _, rfl, _, rfl, y, rfl, by omega, ?_⟩
  rw [cut_from, cut_to]
  refine ⟨_, _, rfl, rfl, by rw [List.length_drop, List.length_take]; omega, _, rfl, ?_⟩
  have pr : (y.drop r ++ y.take r).Perm y := by
    have := (List.perm_append_comm (l₁ := y.drop r) (l₂ := y.take r))
    rwa [List.take_append_drop] at this
  refine ⟨_, dr, ws, os, rfl, hy.perm pr.symm, by rw [pr.length_eq]; exact hyl, hws.perm pr, hos.perm pr, hdr6.same s68, fun q2 qs2 H9 nq2 hq2 hk2 hv2 s9 => ?_⟩
  rw [mtgs_rot (List.take_append_drop r y).symm hy hws hos] at hv2
  have rd2 : ∀ {H' : Hp} {p : Addr} {qs : List Q4}, H' p = some (.lst (q4v qs)) -> (∀ x ∈ qs, Q4Ok H' x) -> qs.map Q4.v = mtgs y ws os -> RdD K H' (.ref p) (.list ((mtgs y ws os).map qD)) := fun {H' p qs} h1 h2 h3 => .lst (SqL.of h1) (by rw [<- h3]; exact rdds_q4 h2)
  have due : ∀ {H' : Hp}, Same H6 H' -> RdD K H' (.ref q1) (.list ((mtgs y ws os).map qD)) := fun s => rd2 (s _ _ hq1) (fun x hx => (hk1 x hx).ts (TSame.of s)) hv1
  have hnd : PyData.hasDict (.list ((mtgs y ws os).map qD)) = false := dict_qs _
  have s69 := s68.trans s9
  refine ⟨_, rfl, _, _, rd2 hq2 hk2 hv2, due s69, ⟨sm1.ly, sm1.ly⟩, Nat.le_trans sm1.dp (by decide), _, rfl, iteN (by rw [eqv_refl _ hnd]; rfl) ?_⟩
  have hdr9 := hdr6.same s69
  have hwt9 := s69 _ _ hwt6
  obtain ⟨⟨wt9, ot, f1, f2, f3⟩, fO⟩ := id hdr9
  refine ⟨_, rfl, 1, rfl, _, rfl, rfl, y, rfl, by omega, ?_⟩
  refine ⟨_, rfl, _, rfl, dr, _, _, _, rfl, rfl, SqT.of f1, atI_nat (j := 1) rfl, ot, rfl, ⟨_, SqT.of f3⟩, ?_⟩
  have hbl := bsOf_len hy
  have hol : os.length = (bsOf y).length := hos.1
  refine comp_tup (K := K) (a := ot) (xs := odv os) (fun m acc H' => Same H9 H' /\ ∃ vs : List Od, acc = odv vs /\ (∀ o ∈ vs, OdOk H' o) /\ vs.map prs = ((os.take m).map prs).map List.reverse) (by rw [odv_len]; omega) (fun m acc H' h => SqT.of (h.1 _ _ f3)) ⟨Same.refl _, [], rfl, fun _ h => absurd h List.not_mem_nil, rfl⟩ ?_ ?_
  · rintro m x acc H10 Nx hm hxm hal ⟨s10, vs, rfl, hvs, hve⟩ nx
    obtain ⟨o, ho, rfl⟩ : ∃ o, os[m]? = some o /\ x = .ref o.o := by
      unfold odv at hxm
      rw [List.getElem?_map] at hxm
      cases e : os[m]? with
      | none => rw [e] at hxm; cases hxm
      | some p => rw [e] at hxm; cases hxm; exact ⟨p, rfl, rfl⟩
    have ok := (fO o (List.mem_of_getElem? ho)).same s10
    refine ⟨trivial, yes_ite ?_⟩
    refine ⟨_, rfl, 1, rfl, _, rfl, rfl, o.o, _, rfl, SqT.of ok.tp, fun p np => ?_⟩
    rw [prv_rev]
    have sp := Same.upd (o := HO.tup (prv o.ps.reverse)) np
    refine nx _ _ (by simpa using hal) ⟨s10.trans sp, vs ++ [⟨p, o.ps.reverse⟩], odv_snoc vs ⟨p, o.ps.reverse⟩, fun r hr => ?_, ?_⟩
    · rcases List.mem_append.mp hr with g | g
      · exact (hvs r g).same sp
      · have := List.mem_singleton.mp g
        subst this
        exact ⟨upd_same, fun p hp => (ok.pr p (List.mem_reverse.mp hp)).same sp, by show o.ps.reverse.length <= 100; rw [List.length_reverse]; exact ok.fw⟩
    · rw [List.map_append, hve, <- take_snoc ho, List.map_append, List.map_append]
      show _ ++ [o.ps.reverse.map Pr.pair] = _ ++ [(o.ps.map Pr.pair).reverse]
      rw [List.map_reverse]
  rintro acc H10 D hal ⟨s10, vs, rfl, hvs, hve⟩ hD
  rw [odv_len, List.take_length] at hve
  refine ⟨D, _, rfl, .inl ⟨SqL.of upd_same, fun t1 nt1 => ?_⟩⟩
  refine ⟨by show 2 <= sizeLine; decide, fun t2 nt2 => ?_⟩
  have sA := (Same.upd (o := HO.lst (odv vs)) hD).trans ((Same.upd (o := HO.tup (odv vs)) nt1).trans (Same.upd (o := HO.tup [.ref wt, .ref t1]) nt2))
  have ht2 := upd_same (H := upd (upd H10 D (HO.lst (odv vs))) t1 (HO.tup (odv vs))) (a := t2) (o := HO.tup [.ref wt, .ref t1])
  have ht1 := (Same.upd (o := HO.tup [.ref wt, .ref t1]) nt2) _ _ (upd_same (H := upd H10 D (HO.lst (odv vs))) (a := t1) (o := HO.tup (odv vs)))
  generalize upd (upd (upd H10 D (HO.lst (odv vs))) t1 (HO.tup (odv vs))) t2 (HO.tup [.ref wt, .ref t1]) = H11 at sA ht2 ht1 ⊢
  have s9B := s10.trans sA
  refine ⟨y.reverse, t2, ws, vs, rfl, hy.perm (List.reverse_perm y).symm, by rw [List.length_reverse]; exact hyl, hws.perm (List.reverse_perm y), OsOk.rev hve hos, ⟨⟨wt, t1, ht2, s9B _ _ hwt9, ht1⟩, fun o ho => (hvs o ho).same sA⟩, fun q3 qs3 H12 nq3 hq3 hk3 hv3 s12 => ?_⟩
  rw [mtgs_rev hve hy hws hos] at hv3
  have s9_12 := s9B.trans s12
  have s6_12 := s69.trans s9_12
  refine ⟨_, rfl, _, _, rd2 hq3 hk3 hv3, due s6_12, ⟨sm1.ly, sm1.ly⟩, Nat.le_trans sm1.dp (by decide), _, rfl, iteN (by rw [eqv_refl _ hnd]; rfl) ?_⟩
  refine ⟨_, rfl, y, rfl, by omega, fun nm l' H13 nnm hnm hl' hw' s13 => ?_⟩
  rw [smalls_low hy.lt] at hl'
  have el := bsOf_eq hl' hw'
  subst el
  have bx12 := (bx8.same s9).same s9_12
  have bx13 := bx12.same s13
  have nmb : nm ≠ b3 := bx12.ne nnm
  refine ⟨_, rfl, _, rfl, nm, _, rfl, .inl (SqL.of hnm), b3, _, rfl, bx13, by rw [sgs_len]; omega, by rw [sgs_len]; omega, fun k H14 hk bx14 s14 => ?_⟩
  rw [sgs_len] at hk
  have hk2' : k < (bsOf y).length := by omega
  have hnm14 := s14 _ _ hnm nmb
  have s8_13 : Same H8 H13 := (s9.trans s9_12).trans s13
  have s7_14 : SameB b3 H7 H14 := (s8.after s8_13).trans s14
  have s6_14 : Same H6 H14 := SameB.same nb3 s7 s7_14
  have hdr14 := hdr6.same s6_14
  have hwt14 := s6_14 _ _ hwt6
  obtain ⟨bb, hbb⟩ : ∃ bb, (bsOf y)[k]? = some bb := ⟨_, List.getElem?_eq_getElem hk2'⟩
  have hbs := bs_sm hy hbb
  have hko : k < os.length := by omega
  obtain ⟨o, ho⟩ : ∃ o, os[k]? = some o := ⟨_, List.getElem?_eq_getElem hko⟩
  obtain ⟨⟨wt14, ot14, e1, e2, e3⟩, eO⟩ := id hdr14
  have hoo := eO o (List.mem_of_getElem? ho)
  refine ⟨_, rfl, dr, _, _, _, rfl, rfl, SqT.of e1, atI_nat (j := 1) rfl, _, rfl, _, rfl, ot14, _, rfl, e3, fun a1 H15 k15 h15 => ?_⟩
  refine ⟨_, rfl, dr, _, _, _, rfl, rfl, SqT.of (k15 _ _ e1), atI_nat (j := 1) rfl, _, rfl, ot14, _, _, _, rfl, rfl, SqT.of (k15 _ _ e3), atI_nat (odv_at ho), 1, rfl, _, rfl, rfl, o.o, _, rfl, SqT.of (k15 _ _ hoo.tp), fun a2 na2 => ?_⟩
  rw [prv_rev]
  refine ⟨by show 1 <= sizeLine; decide, fun a3 na3 => ?_⟩
  have s16 := (Same.upd (o := HO.tup (prv o.ps.reverse)) na2).trans (Same.upd (o := HO.tup [.ref a2]) na3)
  have h2a := (Same.upd (o := HO.tup [.ref a2]) na3) _ _ (upd_same (H := H15) (a := a2) (o := HO.tup (prv o.ps.reverse)))
  have h3a := upd_same (H := upd H15 a2 (HO.tup (prv o.ps.reverse))) (a := a3) (o := HO.tup [.ref a2])
  generalize upd (upd H15 a2 (HO.tup (prv o.ps.reverse))) a3 (HO.tup [.ref a2]) = H16 at s16 h2a h3a ⊢
  have lc1 := cutV_length (odv os) none (some (k : Int))
  have lc2 := cutV_length (odv os) (some ((k : Int) + 1)) none
  rw [odv_len] at lc1 lc2
  refine ⟨a1, a3, _, _, rfl, rfl, s16 _ _ h15, h3a, by show _ + 1 <= _; omega, fun a4 H17 k17 h17 => ?_⟩
  refine ⟨_, rfl, dr, _, _, _, rfl, rfl, SqT.of (k17 _ _ (s16 _ _ (k15 _ _ e1))), atI_nat (j := 1) rfl, _, rfl, _, _, rfl, rfl, _, rfl, ot14, _, rfl, k17 _ _ (s16 _ _ (k15 _ _ e3)), fun a5 H18 k18 h18 => ?_⟩
  refine ⟨a4, a5, _, _, rfl, rfl, k18 _ _ h17, h18, by rw [List.length_append]; show _ + 1 + _ <= _; omega, fun a6 H19 k19 h19 => ?_⟩
  have h19' : H19 a6 = some (.tup (odv (os.take k ++ [⟨a2, o.ps.reverse⟩] ++ os.drop (k + 1)))) := by rw [<- odv_put os k ⟨a2, o.ps.reverse⟩]; exact h19
  have s14_19 : Same H14 H19 := fun x u e => k19 _ _ (k18 _ _ (k17 _ _ (s16 _ _ (k15 _ _ e))))
  have hn1 : ∀ r ∈ os.take k ++ [⟨a2, o.ps.reverse⟩] ++ os.drop (k + 1), OdOk H19 r := fun r hr => by
    rcases List.mem_append.mp hr with g | g
    · rcases List.mem_append.mp g with g | g
      · exact (eO r (List.mem_of_mem_take g)).same s14_19
      · have := List.mem_singleton.mp g
        subst this
        exact ⟨k19 _ _ (k18 _ _ (k17 _ _ h2a)), fun p hp => (hoo.pr p (List.mem_reverse.mp hp)).same s14_19, by show o.ps.reverse.length <= 100; rw [List.length_reverse]; exact hoo.fw⟩
    · exact (eO r (List.mem_of_mem_drop g)).same s14_19
  have hpe := prs_put (o' := ⟨a2, o.ps.reverse⟩) ho rfl
  generalize os.take k ++ [⟨a2, o.ps.reverse⟩] ++ os.drop (k + 1) = ov at h19' hn1 hpe
  have hwt19 := s14_19 _ _ hwt14
  have hnm19 := s14_19 _ _ hnm14
  have hlw : ∀ w ∈ ws, (∀ c ∈ w, Lt c) /\ w.length <= 12 := fun w hw => ⟨fun c hc => hy.lt c ((hws.all w hw).1 c hc), (hws.all w hw).2⟩
  refine ⟨_, rfl, wt, rfl, ⟨_, SqT.of hwt19⟩, ?_⟩
  refine comp_tup (K := K) (a := wt) (xs := txs ws) (fun m acc H' => Same H19 H' /\ acc = txs ((ws.take m).map fun w => w.map (exch bb))) (by rw [txs_len]; omega) (fun m acc H' h => SqT.of (h.1 _ _ hwt19)) ⟨Same.refl _, rfl⟩ ?_ ?_
  · rintro m x acc H20 Nx hm hxm hal ⟨s20, rfl⟩ nx
    obtain ⟨w, hw, rfl⟩ := txs_get hxm
    have hwm := hlw w (List.mem_of_getElem? hw)
    refine ⟨⟨rfl, rfl, trivial⟩, yes_ite ?_⟩
    refine ⟨_, rfl, _, rfl, _, rfl, nm, _, _, _, rfl, rfl, SqL.of (s20 _ _ hnm19), atI_nat (sgs_at2 hbb), w, bb, rfl, hwm.1, by omega, .inl hbs, fun H21 s21 => nx _ _ (by simpa using hal) ⟨s20.trans s21, ?_⟩⟩
    rw [txs_snoc, <- take_snoc hw, List.map_append]
    rfl
  rintro acc H20 D2 hal2 ⟨s20, rfl⟩ hD2
  rw [txs_len, List.take_length]
  refine ⟨D2, _, rfl, .inl ⟨SqL.of upd_same, fun t5 nt5 => ?_⟩⟩
  refine ⟨_, rfl, ?_⟩
  refine ⟨by show 2 <= sizeLine; decide, fun t6 nt6 => ?_⟩
  have sC := (Same.upd (o := HO.lst (txs (ws.map fun w => w.map (exch bb)))) hD2).trans ((Same.upd (o := HO.tup (txs (ws.map fun w => w.map (exch bb)))) nt5).trans (Same.upd (o := HO.tup [.ref t5, .ref a6]) nt6))
  have ht6 := upd_same (H := upd (upd H20 D2 (HO.lst (txs (ws.map fun w => w.map (exch bb))))) t5 (HO.tup (txs (ws.map fun w => w.map (exch bb))))) (a := t6) (o := HO.tup [.ref t5, .ref a6])
  have ht5 := (Same.upd (o := HO.tup [.ref t5, .ref a6]) nt6) _ _ (upd_same (H := upd H20 D2 (HO.lst (txs (ws.map fun w => w.map (exch bb))))) (a := t5) (o := HO.tup (txs (ws.map fun w => w.map (exch bb)))))
  generalize upd (upd (upd H20 D2 (HO.lst (txs (ws.map fun w => w.map (exch bb))))) t5 (HO.tup (txs (ws.map fun w => w.map (exch bb))))) t6 (HO.tup [.ref t5, .ref a6]) = H21 at sC ht6 ht5 ⊢
  have s19_21 := s20.trans sC
  refine ⟨_, rfl, _, rfl, _, rfl, nm, _, _, _, rfl, rfl, SqL.of (s19_21 _ _ hnm19), atI_nat (sgs_at2 hbb), y, bb, rfl, hy.lt, by omega, .inl hbs, fun H22 s22 => ?_⟩
  have s19_22 := s19_21.trans s22
  refine ⟨_, rfl, ?_⟩
  have py := exch_perm hy hbs
  refine ⟨_, t6, _, ov, rfl, hy.perm py.symm, by rw [List.length_map]; exact hyl, WsOk.exch hy hws hbs, OsOk.exch hpe hy hws hos hbb hko, ⟨⟨t5, a6, s22 _ _ ht6, s22 _ _ ht5, s19_22 _ _ h19'⟩, fun r hr => (hn1 r hr).same s19_22⟩, fun q4 qs4 H23 nq4 hq4 hk4 hv4 s23 => ?_⟩
  rw [mtgs_exch hpe hy hws hos hbb hko] at hv4
  have s14_23 := s14_19.trans (s19_22.trans s23)
  have s6_23 := s6_14.trans s14_23
  refine ⟨_, rfl, _, _, rd2 hq4 hk4 hv4, due s6_23, ⟨sm1.ly, sm1.ly⟩, Nat.le_trans sm1.dp (by decide), _, rfl, iteN (by rw [eqv_refl _ hnd]; rfl) ?_⟩
  have hwt23 := s6_23 _ _ hwt6
  have bx23 := bx14.same s14_23
  have fin : ∀ {H' : Hp}, Same H6 H' -> DrAt H' dr ws os /\ H' wt = some (.tup (txs ws)) := fun s => ⟨hdr6.same s, s _ _ hwt6⟩
  have hsum := sum_le12 fun w hw => (hws.all w hw).2
  have hfl : ws.flatten.length <= 48 := by rw [List.length_flatten]; omega
  refine ⟨_, rfl, wt, _, rfl, .inr (SqT.of hwt23), _, _, rfl, rfl, _, rfl, ite2 (fun z => ?_) (fun z => ?_)⟩
  · have hwpos : 0 < ws.length := by
      rw [txs_len] at z
      have := of_decide_eq_true z
      omega
    refine ⟨_, rfl, _, rfl, wt, _, rfl, .inr (SqT.of hwt23), b3, _, rfl, bx23, by rw [txs_len]; omega, by rw [txs_len]; omega, fun c H24 hc bx24 s24 => ?_⟩
    rw [txs_len] at hc
    have hcl : c < ws.length := by omega
    have s6_24 : Same H6 H24 := SameB.same nb3 s7 ((s7_14.after s14_23).trans s24)
    obtain ⟨hd24, hw24⟩ := fin s6_24
    refine ⟨_, rfl, _, rfl, dr, c, ws, os, rfl, hd24, hcl, hwf, fun w hw => (hlw w hw).2, by omega, hos.cells, fun d2 os2 H25 hd2 he2 s25 => ?_⟩
    have hws2 := WsOk.later hcl hws
    have hos2 := OsOk.later hcl he2 hos
    refine ⟨_, rfl, _, rfl, y, d2, _, os2, rfl, hy, hyl, hws2, hd2, hos2, fun H26 s26 => ?_⟩
    refine ⟨_, _, rfl, rfl, _, rfl, iteN rfl ?_⟩
    refine ⟨_, rfl, _, rfl, y, d2, _, os2, rfl, hy, hyl, hws2, hos2, hd2.same s26, fun q5 qs5 H27 nq5 hq5 hk5 hv5 s27 => ?_⟩
    have s6_27 := ((s6_24.trans s25).trans s26).trans s27
    obtain ⟨hd27, hw27⟩ := fin s6_27
    have ew : ws.getD c [] = ws[c] := by rw [List.getD_eq_getElem?_getD, List.getElem?_eq_getElem hcl]; rfl
    have hcw : ws[c]? = some (ws.getD c []) := by rw [ew]; exact List.getElem?_eq_getElem hcl
    have hNl : (ws.getD c []).length <= 12 := by rw [ew]; exact (hlw _ (List.getElem_mem hcl)).2
    have hl1 : qs1.length <= 2304 := by
      have := congrArg List.length hv1
      rw [List.length_map] at this
      omega
    refine ⟨_, rfl, _, rfl, _, rfl, _, rfl, wt, _, _, _, rfl, rfl, SqT.of hw27, atI_nat (txs_at2 hcw), _, rfl, by omega, ?_⟩
    refine ⟨q1, c, _, qs1, rfl, s6_27 _ _ hq1, fun x hx => (hk1 x hx).ts (TSame.of s6_27), by omega, by omega, by omega, fun x hx => ?_, by rw [hv1]; exact renum_nd, fun q6 qs6 H28 hq6 hk6 hp6 hr6 s28 => ?_⟩
    · have hm : x.v ∈ mtgs y ws os := by rw [<- hv1]; exact List.mem_map.mpr ⟨x, hx, rfl⟩
      obtain ⟨m1, m2, m3, _⟩ := mtgs_at hm
      refine ⟨mtgs_small hws _ hm, fun e => ?_, fun e => ?_, fun e => lt2p_ne m3 (phi_inj m1 m2 e)⟩
      · have g : x.v.2.1 < (ws.getD x.v.1 []).length := (mem_cells.mp m1).2
        rwa [e] at g
      · have g : x.v.2.2.2 < (ws.getD x.v.2.2.1 []).length := (mem_cells.mp m2).2
        rwa [e] at g
    have hv6 : qs6.map Q4.v = mtgs y (ws.set c (rot1 (ws.getD c []))) os2 := rise4_eq (hp6.trans (by rw [hv1]; exact mtgs_later hcl he2 hy hws hos)) hr6 (mtgs_rise _ _ _)
    have hml2 := mtgs_len (os := os2) hws2
    have sm2 : SmD 40 100000 (.list ((mtgs y (ws.set c (rot1 (ws.getD c []))) os2).map qD)) := sm_q4 (mtgs_small (os := os2) hws2) (by omega)
    have hnd2 : PyData.hasDict (.list ((mtgs y (ws.set c (rot1 (ws.getD c []))) os2).map qD)) = false := dict_qs _
    refine ⟨.list ((mtgs y (ws.set c (rot1 (ws.getD c []))) os2).map qD), .list ((mtgs y (ws.set c (rot1 (ws.getD c []))) os2).map qD), .lst (SqL.of (s28 _ _ hq5)) (by rw [<- hv5]; exact rdds_q4 fun x hx => (hk5 x hx).ts (TSame.of s28)), .lst (SqL.of hq6) (by rw [<- hv6]; exact rdds_q4 hk6), ⟨sm2.ly, sm2.ly⟩, Nat.le_trans sm2.dp (by decide), _, rfl, iteN (by rw [eqv_refl _ hnd2]; rfl) ?_⟩
    obtain ⟨hdF, hwF⟩ := fin (s6_27.trans s28)
    refine ⟨_, rfl, _, rfl, y, dr, ws, os, rfl, hy, hyl, by omega, hdF, fun qp ps HF nqp hqp hpo hpis hpl sF => ?_⟩
    refine ⟨qp, _, rfl, .inl (SqL.of hqp), ?_⟩
    refine ⟨rfl, _, rfl, wt, ws, rfl, rfl, SqT.of (sF _ _ hwF), by omega, _, rfl, by omega, ?_⟩
    refine ⟨_, _, rfl, rfl, Or.inl ⟨by decide, by decide⟩, ?_⟩
    refine ⟨_, _, rfl, rfl, ?_⟩
    have hn : ps.length = 2 * ws.flatten.length := by
      have := congrArg List.length hpis
      rw [List.length_map] at this
      rw [this]
      exact pts_len2 hy hws hos
    have ht : decide ((((ptv ps).length : Nat) : Int) = 2 * ((ws.flatten.length : Nat) : Int)) = true := decide_eq_true (by rw [ptv_len, hn]; omega)
    show Q (V.bl (decide ((((ptv ps).length : Nat) : Int) = 2 * ((ws.flatten.length : Nat) : Int)))) HF
    rw [ht]
    exact q _
  · obtain ⟨hdF, hwF⟩ := fin s6_23
    refine ⟨_, rfl, _, rfl, y, dr, ws, os, rfl, hy, hyl, by omega, hdF, fun qp ps HF nqp hqp hpo hpis hpl sF => ?_⟩
    refine ⟨qp, _, rfl, .inl (SqL.of hqp), ?_⟩
    refine ⟨rfl, _, rfl, wt, ws, rfl, rfl, SqT.of (sF _ _ hwF), by omega, _, rfl, by omega, ?_⟩
    refine ⟨_, _, rfl, rfl, Or.inl ⟨by decide, by decide⟩, ?_⟩
    refine ⟨_, _, rfl, rfl, ?_⟩
    have hn : ps.length = 2 * ws.flatten.length := by
      have := congrArg List.length hpis
      rw [List.length_map] at this
      rw [this]
      exact pts_len2 hy hws hos
    have ht : decide ((((ptv ps).length : Nat) : Int) = 2 * ((ws.flatten.length : Nat) : Int)) = true := decide_eq_true (by rw [ptv_len, hn]; omega)
    show Q (V.bl (decide ((((ptv ps).length : Nat) : Int) = 2 * ((ws.flatten.length : Nat) : Int)))) HF
    rw [ht]
    exact q _
end
theorem us_z {M : List Value -> Prop} (h : M []) : ∀ us : List Value, us.length = 0 -> M us
  | [], _ => h
theorem us_s {M : List Value -> Prop} {n : Nat} (h : ∀ (a : Value) (us : List Value), us.length = n -> M (a :: us)) : ∀ us : List Value, us.length = n + 1 -> M us
  | a :: us, e => h a us (Nat.succ.inj e)
theorem all_mk {l : PySem.W.OpenLaw} {w : World} {K : PySem.W.Frag} {h : Heap} {mg : Str -> Option Value} {fa f0 f1 f2 f3 f4 f5 f6 f7 f8 f9 f10 f11 f12 f13 f14 f15 f16 f17 f18 f19 f20 f21 f22 f23 f24 f25 : Addr} (X : K.In h) (G : h.Ns mainGlobals mg) (hfa : mg "law" = some (.ref fa))
    {od0 an0 od1 an1 od2 an2 od3 an3 od4 an4 od5 an5 od6 an6 od7 an7 od8 an8 od9 an9 od10 an10 od11 an11 od12 an12 od13 an13 od14 an14 od15 an15 od16 an16 od17 an17 od18 an18 od19 an19 od20 an20 od21 an21 od22 an22 od23 an23 od24 an24 od25 an25 : Option Addr} {sl0 sl1 sl2 sl3 sl4 sl5 sl6 sl7 sl8 sl9 sl10 sl11 sl12 sl13 sl14 sl15 sl16 sl17 sl18 sl19 sl20 sl21 sl22 sl23 sl24 sl25 : Array (Option Value)} {oc0 kV0 dc0 pm0 cd0 ct0 oc1 kV1 dc1 pm1 cd1 ct1 oc2 kV2 dc2 pm2 cd2 ct2 oc3 kV3 dc3 pm3 cd3 ct3 oc4 kV4 dc4 pm4 cd4 ct4 oc5 kV5 dc5 pm5 cd5 ct5 oc6 kV6 dc6 pm6 cd6 ct6 oc7 kV7 dc7 pm7 cd7 ct7 oc8 kV8 dc8 pm8 cd8 ct8 oc9 kV9 dc9 pm9 cd9 ct9 oc10 kV10 dc10 pm10 cd10 ct10 oc11 kV11 dc11 pm11 cd11 ct11 oc12 kV12 dc12 pm12 cd12 ct12 oc13 kV13 dc13 pm13 cd13 ct13 oc14 kV14 dc14 pm14 cd14 ct14 oc15 kV15 dc15 pm15 cd15 ct15 oc16 kV16 dc16 pm16 cd16 ct16 oc17 kV17 dc17 pm17 cd17 ct17 oc18 kV18 dc18 pm18 cd18 ct18 oc19 kV19 dc19 pm19 cd19 ct19 oc20 kV20 dc20 pm20 cd20 ct20 oc21 kV21 dc21 pm21 cd21 ct21 oc22 kV22 dc22 pm22 cd22 ct22 oc23 kV23 dc23 pm23 cd23 ct23 oc24 kV24 dc24 pm24 cd24 ct24 oc25 kV25 dc25 pm25 cd25 ct25 : Value}
    (a0 : PySem.W.nsIn K mainGlobals "contrary" = some (some (.ref f0)))
    (l0 : K.lookup f0 = some ⟨oc0, od0, .func (PySem.W.fnOf "contrary" "contrary" (defArgs s_contrary) (defBody s_contrary) (defScope s_contrary) .none kV0 dc0 pm0 an0 cd0 ct0), sl0⟩)
    (c0 : PySem.W.codeIn K cd0 "contrary" = true)
    (k0 : PySem.W.keepIn K (.ref f0) = true)
    (a1 : PySem.W.nsIn K mainGlobals "foreign_sign" = some (some (.ref f1)))
    (l1 : K.lookup f1 = some ⟨oc1, od1, .func (PySem.W.fnOf "foreign_sign" "foreign_sign" (defArgs s_foreign_sign) (defBody s_foreign_sign) (defScope s_foreign_sign) .none kV1 dc1 pm1 an1 cd1 ct1), sl1⟩)
    (c1 : PySem.W.codeIn K cd1 "foreign_sign" = true)
    (k1 : PySem.W.keepIn K (.ref f1) = true)
    (a2 : PySem.W.nsIn K mainGlobals "bands" = some (some (.ref f2)))
    (l2 : K.lookup f2 = some ⟨oc2, od2, .func (PySem.W.fnOf "bands" "bands" (defArgs s_bands) (defBody s_bands) (defScope s_bands) .none kV2 dc2 pm2 an2 cd2 ct2), sl2⟩)
    (c2 : PySem.W.codeIn K cd2 "bands" = true)
    (k2 : PySem.W.keepIn K (.ref f2) = true)
    (a3 : PySem.W.nsIn K mainGlobals "strands_at" = some (some (.ref f3)))
    (l3 : K.lookup f3 = some ⟨oc3, od3, .func (PySem.W.fnOf "strands_at" "strands_at" (defArgs s_strands_at) (defBody s_strands_at) (defScope s_strands_at) .none kV3 dc3 pm3 an3 cd3 ct3), sl3⟩)
    (c3 : PySem.W.codeIn K cd3 "strands_at" = true)
    (k3 : PySem.W.keepIn K (.ref f3) = true)
    (a4 : PySem.W.nsIn K mainGlobals "points" = some (some (.ref f4)))
    (l4 : K.lookup f4 = some ⟨oc4, od4, .func (PySem.W.fnOf "points" "points" (defArgs s_points) (defBody s_points) (defScope s_points) .none kV4 dc4 pm4 an4 cd4 ct4), sl4⟩)
    (c4 : PySem.W.codeIn K cd4 "points" = true)
    (k4 : PySem.W.keepIn K (.ref f4) = true)
    (a5 : PySem.W.nsIn K mainGlobals "corner_points" = some (some (.ref f5)))
    (l5 : K.lookup f5 = some ⟨oc5, od5, .func (PySem.W.fnOf "corner_points" "corner_points" (defArgs s_corner_points) (defBody s_corner_points) (defScope s_corner_points) .none kV5 dc5 pm5 an5 cd5 ct5), sl5⟩)
    (c5 : PySem.W.codeIn K cd5 "corner_points" = true)
    (k5 : PySem.W.keepIn K (.ref f5) = true)
    (a6 : PySem.W.nsIn K mainGlobals "corners" = some (some (.ref f6)))
    (l6 : K.lookup f6 = some ⟨oc6, od6, .func (PySem.W.fnOf "corners" "corners" (defArgs s_corners) (defBody s_corners) (defScope s_corners) .none kV6 dc6 pm6 an6 cd6 ct6), sl6⟩)
    (c6 : PySem.W.codeIn K cd6 "corners" = true)
    (k6 : PySem.W.keepIn K (.ref f6) = true)
    (a7 : PySem.W.nsIn K mainGlobals "corners_meet" = some (some (.ref f7)))
    (l7 : K.lookup f7 = some ⟨oc7, od7, .func (PySem.W.fnOf "corners_meet" "corners_meet" (defArgs s_corners_meet) (defBody s_corners_meet) (defScope s_corners_meet) .none kV7 dc7 pm7 an7 cd7 ct7), sl7⟩)
    (c7 : PySem.W.codeIn K cd7 "corners_meet" = true)
    (k7 : PySem.W.keepIn K (.ref f7) = true)
    (a8 : PySem.W.nsIn K mainGlobals "meetings" = some (some (.ref f8)))
    (l8 : K.lookup f8 = some ⟨oc8, od8, .func (PySem.W.fnOf "meetings" "meetings" (defArgs s_meetings) (defBody s_meetings) (defScope s_meetings) .none kV8 dc8 pm8 an8 cd8 ct8), sl8⟩)
    (c8 : PySem.W.codeIn K cd8 "meetings" = true)
    (k8 : PySem.W.keepIn K (.ref f8) = true)
    (a9 : PySem.W.nsIn K mainGlobals "strands_in" = some (some (.ref f9)))
    (l9 : K.lookup f9 = some ⟨oc9, od9, .func (PySem.W.fnOf "strands_in" "strands_in" (defArgs s_strands_in) (defBody s_strands_in) (defScope s_strands_in) .none kV9 dc9 pm9 an9 cd9 ct9), sl9⟩)
    (c9 : PySem.W.codeIn K cd9 "strands_in" = true)
    (k9 : PySem.W.keepIn K (.ref f9) = true)
    (a10 : PySem.W.nsIn K mainGlobals "look_words" = some (some (.ref f10)))
    (l10 : K.lookup f10 = some ⟨oc10, od10, .func (PySem.W.fnOf "look_words" "look_words" (defArgs s_look_words) (defBody s_look_words) (defScope s_look_words) .none kV10 dc10 pm10 an10 cd10 ct10), sl10⟩)
    (c10 : PySem.W.codeIn K cd10 "look_words" = true)
    (k10 : PySem.W.keepIn K (.ref f10) = true)
    (a11 : PySem.W.nsIn K mainGlobals "look_orders" = some (some (.ref f11)))
    (l11 : K.lookup f11 = some ⟨oc11, od11, .func (PySem.W.fnOf "look_orders" "look_orders" (defArgs s_look_orders) (defBody s_look_orders) (defScope s_look_orders) .none kV11 dc11 pm11 an11 cd11 ct11), sl11⟩)
    (c11 : PySem.W.codeIn K cd11 "look_orders" = true)
    (k11 : PySem.W.keepIn K (.ref f11) = true)
    (a12 : PySem.W.nsIn K mainGlobals "look_drawing" = some (some (.ref f12)))
    (l12 : K.lookup f12 = some ⟨oc12, od12, .func (PySem.W.fnOf "look_drawing" "look_drawing" (defArgs s_look_drawing) (defBody s_look_drawing) (defScope s_look_drawing) .none kV12 dc12 pm12 an12 cd12 ct12), sl12⟩)
    (c12 : PySem.W.codeIn K cd12 "look_drawing" = true)
    (k12 : PySem.W.keepIn K (.ref f12) = true)
    (a13 : PySem.W.nsIn K mainGlobals "_law_box" = some (some (.ref f13)))
    (l13 : K.lookup f13 = some ⟨oc13, od13, .func (PySem.W.fnOf "_law_box" "_law_box" (defArgs s_Lbox) (defBody s_Lbox) (defScope s_Lbox) .none kV13 dc13 pm13 an13 cd13 ct13), sl13⟩)
    (c13 : PySem.W.codeIn K cd13 "_law_box" = true)
    (k13 : PySem.W.keepIn K (.ref f13) = true)
    (a14 : PySem.W.nsIn K mainGlobals "_law_take" = some (some (.ref f14)))
    (l14 : K.lookup f14 = some ⟨oc14, od14, .func (PySem.W.fnOf "_law_take" "_law_take" (defArgs s_Ltake) (defBody s_Ltake) (defScope s_Ltake) .none kV14 dc14 pm14 an14 cd14 ct14), sl14⟩)
    (c14 : PySem.W.codeIn K cd14 "_law_take" = true)
    (k14 : PySem.W.keepIn K (.ref f14) = true)
    (a15 : PySem.W.nsIn K mainGlobals "_law_other" = some (some (.ref f15)))
    (l15 : K.lookup f15 = some ⟨oc15, od15, .func (PySem.W.fnOf "_law_other" "_law_other" (defArgs s_Lother) (defBody s_Lother) (defScope s_Lother) .none kV15 dc15 pm15 an15 cd15 ct15), sl15⟩)
    (c15 : PySem.W.codeIn K cd15 "_law_other" = true)
    (k15 : PySem.W.keepIn K (.ref f15) = true)
    (a16 : PySem.W.nsIn K mainGlobals "_law_yard" = some (some (.ref f16)))
    (l16 : K.lookup f16 = some ⟨oc16, od16, .func (PySem.W.fnOf "_law_yard" "_law_yard" (defArgs s_Lyard) (defBody s_Lyard) (defScope s_Lyard) .none kV16 dc16 pm16 an16 cd16 ct16), sl16⟩)
    (c16 : PySem.W.codeIn K cd16 "_law_yard" = true)
    (k16 : PySem.W.keepIn K (.ref f16) = true)
    (a17 : PySem.W.nsIn K mainGlobals "_law_word" = some (some (.ref f17)))
    (l17 : K.lookup f17 = some ⟨oc17, od17, .func (PySem.W.fnOf "_law_word" "_law_word" (defArgs s_Lword) (defBody s_Lword) (defScope s_Lword) .none kV17 dc17 pm17 an17 cd17 ct17), sl17⟩)
    (c17 : PySem.W.codeIn K cd17 "_law_word" = true)
    (k17 : PySem.W.keepIn K (.ref f17) = true)
    (a18 : PySem.W.nsIn K mainGlobals "_law_order" = some (some (.ref f18)))
    (l18 : K.lookup f18 = some ⟨oc18, od18, .func (PySem.W.fnOf "_law_order" "_law_order" (defArgs s_Lorder) (defBody s_Lorder) (defScope s_Lorder) .none kV18 dc18 pm18 an18 cd18 ct18), sl18⟩)
    (c18 : PySem.W.codeIn K cd18 "_law_order" = true)
    (k18 : PySem.W.keepIn K (.ref f18) = true)
    (a19 : PySem.W.nsIn K mainGlobals "_law_bands" = some (some (.ref f19)))
    (l19 : K.lookup f19 = some ⟨oc19, od19, .func (PySem.W.fnOf "_law_bands" "_law_bands" (defArgs s_Lbands) (defBody s_Lbands) (defScope s_Lbands) .none kV19 dc19 pm19 an19 cd19 ct19), sl19⟩)
    (c19 : PySem.W.codeIn K cd19 "_law_bands" = true)
    (k19 : PySem.W.keepIn K (.ref f19) = true)
    (a20 : PySem.W.nsIn K mainGlobals "_law_drawing" = some (some (.ref f20)))
    (l20 : K.lookup f20 = some ⟨oc20, od20, .func (PySem.W.fnOf "_law_drawing" "_law_drawing" (defArgs s_Ldrawing) (defBody s_Ldrawing) (defScope s_Ldrawing) .none kV20 dc20 pm20 an20 cd20 ct20), sl20⟩)
    (c20 : PySem.W.codeIn K cd20 "_law_drawing" = true)
    (k20 : PySem.W.keepIn K (.ref f20) = true)
    (a21 : PySem.W.nsIn K mainGlobals "_law_words" = some (some (.ref f21)))
    (l21 : K.lookup f21 = some ⟨oc21, od21, .func (PySem.W.fnOf "_law_words" "_law_words" (defArgs s_Lwords) (defBody s_Lwords) (defScope s_Lwords) .none kV21 dc21 pm21 an21 cd21 ct21), sl21⟩)
    (c21 : PySem.W.codeIn K cd21 "_law_words" = true)
    (k21 : PySem.W.keepIn K (.ref f21) = true)
    (a22 : PySem.W.nsIn K mainGlobals "_law_exchanged" = some (some (.ref f22)))
    (l22 : K.lookup f22 = some ⟨oc22, od22, .func (PySem.W.fnOf "_law_exchanged" "_law_exchanged" (defArgs s_Lexchanged) (defBody s_Lexchanged) (defScope s_Lexchanged) .none kV22 dc22 pm22 an22 cd22 ct22), sl22⟩)
    (c22 : PySem.W.codeIn K cd22 "_law_exchanged" = true)
    (k22 : PySem.W.keepIn K (.ref f22) = true)
    (a23 : PySem.W.nsIn K mainGlobals "_law_later" = some (some (.ref f23)))
    (l23 : K.lookup f23 = some ⟨oc23, od23, .func (PySem.W.fnOf "_law_later" "_law_later" (defArgs s_Llater) (defBody s_Llater) (defScope s_Llater) .none kV23 dc23 pm23 an23 cd23 ct23), sl23⟩)
    (c23 : PySem.W.codeIn K cd23 "_law_later" = true)
    (k23 : PySem.W.keepIn K (.ref f23) = true)
    (a24 : PySem.W.nsIn K mainGlobals "_law_renumbered" = some (some (.ref f24)))
    (l24 : K.lookup f24 = some ⟨oc24, od24, .func (PySem.W.fnOf "_law_renumbered" "_law_renumbered" (defArgs s_Lrenumbered) (defBody s_Lrenumbered) (defScope s_Lrenumbered) .none kV24 dc24 pm24 an24 cd24 ct24), sl24⟩)
    (c24 : PySem.W.codeIn K cd24 "_law_renumbered" = true)
    (k24 : PySem.W.keepIn K (.ref f24) = true)
    (a25 : PySem.W.nsIn K mainGlobals "law" = some (some (.ref f25)))
    (l25 : K.lookup f25 = some ⟨oc25, od25, .func (PySem.W.fnOf "law" "law" (defArgs s_law) (defBody s_law) (defScope s_law) .none kV25 dc25 pm25 an25 cd25 ct25), sl25⟩)
    (c25 : PySem.W.codeIn K cd25 "law" = true)
    (k25 : PySem.W.keepIn K (.ref f25) = true)
    (z_enumerate : PySem.W.nsIn K mainGlobals "enumerate" = some none)
    (z_int : PySem.W.nsIn K mainGlobals "int" = some none)
    (z_len : PySem.W.nsIn K mainGlobals "len" = some none)
    (z_list : PySem.W.nsIn K mainGlobals "list" = some none)
    (z_max : PySem.W.nsIn K mainGlobals "max" = some none)
    (z_min : PySem.W.nsIn K mainGlobals "min" = some none)
    (z_range : PySem.W.nsIn K mainGlobals "range" = some none)
    (z_sorted : PySem.W.nsIn K mainGlobals "sorted" = some none)
    (z_tuple : PySem.W.nsIn K mainGlobals "tuple" = some none) :
    ∃ fd : FuncData, (∀ (s : Shared) (v : Value), BindsTo s fd ⟨[v], []⟩ [("_law_script", v)]) /\ ∀ base : Heap, K.In base -> base.Ns mainGlobals mg -> FnOk l.prog w K mg base CX0 6 fa fd ["_law_script"] (sp_law K) := by
  have e := hfa.symm.trans (PySem.W.mg_of X G a25)
  cases e
  have F0 := fun_mk (st := s_contrary) l0 c0 k0
  have b0 := F0.binds (ps := ["letter"]) fun _ _ _ _ _ _ => us_s fun _ => us_z rfl
  have F1 := fun_mk (st := s_foreign_sign) l1 c1 k1
  have b1 := F1.binds (ps := ["yard", "text"]) fun _ _ _ _ _ _ => us_s fun _ => us_s fun _ => us_z rfl
  have F2 := fun_mk (st := s_bands) l2 c2 k2
  have b2 := F2.binds (ps := ["yard"]) fun _ _ _ _ _ _ => us_s fun _ => us_z rfl
  have F3 := fun_mk (st := s_strands_at) l3 c3 k3
  have b3 := F3.binds (ps := ["yard", "drawing", "end"]) fun _ _ _ _ _ _ => us_s fun _ => us_s fun _ => us_s fun _ => us_z rfl
  have F4 := fun_mk (st := s_points) l4 c4 k4
  have b4 := F4.binds (ps := ["yard", "drawing"]) fun _ _ _ _ _ _ => us_s fun _ => us_s fun _ => us_z rfl
  have F5 := fun_mk (st := s_corner_points) l5 c5 k5
  have b5 := F5.binds (ps := ["word", "cord", "place"]) fun _ _ _ _ _ _ => us_s fun _ => us_s fun _ => us_s fun _ => us_z rfl
  have F6 := fun_mk (st := s_corners) l6 c6 k6
  have b6 := F6.binds (ps := ["yard", "drawing"]) fun _ _ _ _ _ _ => us_s fun _ => us_s fun _ => us_z rfl
  have F7 := fun_mk (st := s_corners_meet) l7 c7 k7
  have b7 := F7.binds (ps := ["one", "other"]) fun _ _ _ _ _ _ => us_s fun _ => us_s fun _ => us_z rfl
  have F8 := fun_mk (st := s_meetings) l8 c8 k8
  have b8 := F8.binds (ps := ["yard", "drawing"]) fun _ _ _ _ _ _ => us_s fun _ => us_s fun _ => us_z rfl
  have F9 := fun_mk (st := s_strands_in) l9 c9 k9
  have b9 := F9.binds (ps := ["words", "band"]) fun _ _ _ _ _ _ => us_s fun _ => us_s fun _ => us_z rfl
  have F10 := fun_mk (st := s_look_words) l10 c10 k10
  have b10 := F10.binds (ps := ["yard", "words"]) fun _ _ _ _ _ _ => us_s fun _ => us_s fun _ => us_z rfl
  have F11 := fun_mk (st := s_look_orders) l11 c11 k11
  have b11 := F11.binds (ps := ["yard", "words", "orders"]) fun _ _ _ _ _ _ => us_s fun _ => us_s fun _ => us_s fun _ => us_z rfl
  have F12 := fun_mk (st := s_look_drawing) l12 c12 k12
  have b12 := F12.binds (ps := ["yard", "drawing"]) fun _ _ _ _ _ _ => us_s fun _ => us_s fun _ => us_z rfl
  have F13 := fun_mk (st := s_Lbox) l13 c13 k13
  have b13 := F13.binds (ps := ["_law_script", "_law_k"]) fun _ _ _ _ _ _ => us_s fun _ => us_s fun _ => us_z rfl
  have F14 := fun_mk (st := s_Ltake) l14 c14 k14
  have b14 := F14.binds (ps := ["_law_box_here", "_law_many"]) fun _ _ _ _ _ _ => us_s fun _ => us_s fun _ => us_z rfl
  have F15 := fun_mk (st := s_Lother) l15 c15 k15
  have b15 := F15.binds (ps := ["_law_letter"]) fun _ _ _ _ _ _ => us_s fun _ => us_z rfl
  have F16 := fun_mk (st := s_Lyard) l16 c16 k16
  have b16 := F16.binds (ps := ["_law_box_here", "_law_few", "_law_top"]) fun _ _ _ _ _ _ => us_s fun _ => us_s fun _ => us_s fun _ => us_z rfl
  have F17 := fun_mk (st := s_Lword) l17 c17 k17
  have b17 := F17.binds (ps := ["_law_box_here", "_law_yard_here", "_law_top"]) fun _ _ _ _ _ _ => us_s fun _ => us_s fun _ => us_s fun _ => us_z rfl
  have F18 := fun_mk (st := s_Lorder) l18 c18 k18
  have b18 := F18.binds (ps := ["_law_box_here", "_law_things"]) fun _ _ _ _ _ _ => us_s fun _ => us_s fun _ => us_z rfl
  have F19 := fun_mk (st := s_Lbands) l19 c19 k19
  have b19 := F19.binds (ps := ["_law_yard_here"]) fun _ _ _ _ _ _ => us_s fun _ => us_z rfl
  have F20 := fun_mk (st := s_Ldrawing) l20 c20 k20
  have b20 := F20.binds (ps := ["_law_box_here", "_law_yard_here", "_law_words_here"]) fun _ _ _ _ _ _ => us_s fun _ => us_s fun _ => us_s fun _ => us_z rfl
  have F21 := fun_mk (st := s_Lwords) l21 c21 k21
  have b21 := F21.binds (ps := ["_law_box_here", "_law_yard_here"]) fun _ _ _ _ _ _ => us_s fun _ => us_s fun _ => us_z rfl
  have F22 := fun_mk (st := s_Lexchanged) l22 c22 k22
  have b22 := F22.binds (ps := ["_law_text", "_law_band"]) fun _ _ _ _ _ _ => us_s fun _ => us_s fun _ => us_z rfl
  have F23 := fun_mk (st := s_Llater) l23 c23 k23
  have b23 := F23.binds (ps := ["_law_drawing_here", "_law_c"]) fun _ _ _ _ _ _ => us_s fun _ => us_s fun _ => us_z rfl
  have F24 := fun_mk (st := s_Lrenumbered) l24 c24 k24
  have b24 := F24.binds (ps := ["_law_told", "_law_c", "_law_many"]) fun _ _ _ _ _ _ => us_s fun _ => us_s fun _ => us_s fun _ => us_z rfl
  have F25 := fun_mk (st := s_law) l25 c25 k25
  have b25 := F25.binds (ps := ["_law_script"]) fun _ _ _ _ _ _ => us_s fun _ => us_z rfl
  have T : Txt K mg _ _ _ _ _ _ _ _ _ _ _ _ _ _ _ _ _ _ _ _ _ _ _ _ _ _ _ _ _ _ _ _ _ _ _ _ _ _ _ _ _ _ _ _ _ _ _ _ _ _ _ _ := ⟨⟨F0, PySem.W.mg_of X G a0, b0⟩, ⟨F1, PySem.W.mg_of X G a1, b1⟩, ⟨F2, PySem.W.mg_of X G a2, b2⟩, ⟨F3, PySem.W.mg_of X G a3, b3⟩, ⟨F4, PySem.W.mg_of X G a4, b4⟩, ⟨F5, PySem.W.mg_of X G a5, b5⟩, ⟨F6, PySem.W.mg_of X G a6, b6⟩, ⟨F7, PySem.W.mg_of X G a7, b7⟩, ⟨F8, PySem.W.mg_of X G a8, b8⟩, ⟨F9, PySem.W.mg_of X G a9, b9⟩, ⟨F10, PySem.W.mg_of X G a10, b10⟩, ⟨F11, PySem.W.mg_of X G a11, b11⟩, ⟨F12, PySem.W.mg_of X G a12, b12⟩, ⟨F13, PySem.W.mg_of X G a13, b13⟩, ⟨F14, PySem.W.mg_of X G a14, b14⟩, ⟨F15, PySem.W.mg_of X G a15, b15⟩, ⟨F16, PySem.W.mg_of X G a16, b16⟩, ⟨F17, PySem.W.mg_of X G a17, b17⟩, ⟨F18, PySem.W.mg_of X G a18, b18⟩, ⟨F19, PySem.W.mg_of X G a19, b19⟩, ⟨F20, PySem.W.mg_of X G a20, b20⟩, ⟨F21, PySem.W.mg_of X G a21, b21⟩, ⟨F22, PySem.W.mg_of X G a22, b22⟩, ⟨F23, PySem.W.mg_of X G a23, b23⟩, ⟨F24, PySem.W.mg_of X G a24, b24⟩, ⟨F25, PySem.W.mg_of X G a25, b25⟩, PySem.W.mg_none_of X G z_enumerate, PySem.W.mg_none_of X G z_int, PySem.W.mg_none_of X G z_len, PySem.W.mg_none_of X G z_list, PySem.W.mg_none_of X G z_max, PySem.W.mg_none_of X G z_min, PySem.W.mg_none_of X G z_range, PySem.W.mg_none_of X G z_sorted, PySem.W.mg_none_of X G z_tuple⟩
  exact ⟨_, fun s v => .of_eq rfl, fun base _ _ => ok_law T⟩
theorem walk {l : PySem.W.OpenLaw} {q : Program} {loose : List Str} {XP : (Str -> Option Value) -> Heap -> Prop} {YP : World -> Heap -> Prop} {d : DefRec} {K : Params -> PySem.W.Frag} (hn : l.most = some 63) (hdf : d.params.defaults = [])
    (hY : ∀ (w : World) (h : Heap), YP w h -> (K w.params).In h)
    (F : ∀ (w : World) (mg : Str -> Option Value) (fa : Addr) (h : Heap), (K w.params).In h -> h.Ns mainGlobals mg -> mg d.name = some (.ref fa) ->
      ∃ fd : FuncData, (∀ (s : Shared) (u : Value), BindsTo s fd ⟨[u], []⟩ [("_law_script", u)]) /\ ∀ base : Heap, (K w.params).In base -> base.Ns mainGlobals mg -> FnOk l.prog w (K w.params) mg base CX0 6 fa fd ["_law_script"] (sp_law (K w.params))) :
    PySem.W.WalkO q loose XP YP l.row.toRowW d [] (fun f vs => PySem.call f vs) :=
  L2.walk_of (n := 63) (k := 6) (x := "_law_script") (CX := fun _ => CX0) (sp := fun w => sp_law (K w.params)) hn (by decide) hdf ⟨rfl, by decide, by decide, rfl⟩ hY F (fun _ _ a ns hl _ hS => ⟨a, ns, rfl, hS, hl, fun _ => rfl⟩) fun _ _ _ _ _ z => z
end My
namespace PySem.W.Fast
def tw1016342194662385900:=0
def tw1017746461817931875:=0
def tw10346837929439499009:=0
def tw1042802480057492054:=0
def tw10485563831953477030:=0
def tw10555650970760866621:=0
def tw1068431363306506278:=0
def tw11181270378140861064:=0
def tw1138674194135265532:=0
def tw11473402713283532494:=0
def tw11477157147631812255:=0
def tw11529758957549520527:=0
def tw11532304053525007172:=0
def tw11545139189996809163:=0
def tw11554679117913684560:=0
def tw11705572817645239603:=0
def tw11723335436032535321:=0
def tw11745209278867231840:=0
def tw11806969307755516382:=0
def tw11916856275648859798:=0
def tw12054391169808500505:=0
def tw12107650914741908032:=0
def tw12187654276968008137:=0
def tw12201249749253344527:=0
def tw12328690074551691521:=0
def tw1239604038894280669:=0
def tw12411458220008937461:=0
def tw12576800733506463569:=0
def tw12772013241440346104:=0
def tw12819490908220657849:=0
def tw12926184360078688117:=0
def tw12943631782855623776:=0
def tw12956033775431771281:=0
def tw12989765731071125320:=0
def tw13503840900000672329:=0
def tw13830943487649073766:=0
def tw13832659063371969373:=0
def tw13985755877647509807:=0
def tw14003232348159533954:=0
def tw14140575112161479920:=0
def tw14177932525553748328:=0
def tw14332987180861970896:=0
def tw14360856606295949675:=0
def tw14524890479340222574:=0
def tw14580399425996363466:=0
def tw14663389580767677387:=0
def tw14682852312496061852:=0
def tw1471688534379024790:=0
def tw14736462794056927277:=0
def tw14907881754667400964:=0
def tw14909509949563152057:=0
def tw15070616102252918784:=0
def tw15252741949755351113:=0
def tw15297628720763588965:=0
def tw15489514382669366984:=0
def tw15781094532146556744:=0
def tw15797445173384445368:=0
def tw16012753248304136669:=0
def tw16086127289427103738:=0
def tw16128910384946171154:=0
def tw16133335815126581216:=0
def tw16141073633706370744:=0
def tw16192690896438830646:=0
def tw16216513278779211481:=0
def tw16257494001791985883:=0
def tw16272127806221394364:=0
def tw16488892002118845828:=0
def tw16542326908585463751:=0
def tw16563678945973461901:=0
def tw1678040256201081218:=0
def tw16859404978271184802:=0
def tw17013388513221734312:=0
def tw17019770305936719073:=0
def tw1710742041834821105:=0
def tw17330823188940032977:=0
def tw17380913624473414084:=0
def tw17408761104903298197:=0
def tw17433727906460654601:=0
def tw1746387910730899550:=0
def tw17469317716519008413:=0
def tw1760795721748106791:=0
def tw17753560257911283136:=0
def tw17801663709067887336:=0
def tw17805387909456997670:=0
def tw17898959418116888044:=0
def tw18026007504823577820:=0
def tw18066442023988183097:=0
def tw18145846923230117726:=0
def tw18187982197032123744:=0
def tw18216999652627304731:=0
def tw18223483270764624561:=0
def tw18394464470340087620:=0
def tw1903699535317779504:=0
def tw1910718618407130179:=0
def tw2120970208193399385:=0
def tw212099527502799068:=0
def tw2130378310554255955:=0
def tw2289047353713065530:=0
def tw2377057867636938443:=0
def tw245069844849705804:=0
def tw2546425389658934707:=0
def tw2548172814420956915:=0
def tw2867133907145285713:=0
def tw2868721441370254715:=0
def tw2887994705101142022:=0
def tw2917465716828038657:=0
def tw2969661408018328762:=0
def tw2992474832025221274:=0
def tw3014198258866537562:=0
def tw3105375410481552854:=0
def tw326719863913747641:=0
def tw3296869920594136125:=0
def tw3403197354964932438:=0
def tw350623786145783402:=0
def tw3507066951843484437:=0
def tw3521161883133928471:=0
def tw3524014478723712155:=0
def tw3597013983610367185:=0
def tw3603972976280363109:=0
def tw3792267676999617168:=0
def tw394595648456376942:=0
def tw4036503215652827035:=0
def tw4049426577132198652:=0
def tw4095437752421566185:=0
def tw41891539930033328:=0
def tw4234528271382333457:=0
def tw4378188231644044151:=0
def tw4533892536126346327:=0
def tw4537633280150547377:=0
def tw4544570354640800540:=0
def tw4578658743502550090:=0
def tw4767892287124052950:=0
def tw4810315252916487437:=0
def tw4905046795176742095:=0
def tw4922771836049305716:=0
def tw5048616622300158277:=0
def tw5386346237616976144:=0
def tw5615266785218121640:=0
def tw5633168628874000098:=0
def tw5689664083570729976:=0
def tw5952411413200742839:=0
def tw5979479943306418966:=0
def tw5984526943277164318:=0
def tw6035224224541548703:=0
def tw6115916417903129474:=0
def tw6159652493244482247:=0
def tw6162749451781739525:=0
def tw632251418665661483:=0
def tw6432442722208071227:=0
def tw6594552734382325232:=0
def tw6644741148390339433:=0
def tw6685528274425098767:=0
def tw6741910864917028198:=0
def tw678341353411626921:=0
def tw6823538349755367123:=0
def tw6964420520892265787:=0
def tw7030527083128123407:=0
def tw7101979329934591923:=0
def tw7132871589305530694:=0
def tw723311449732457330:=0
def tw72967399351786176:=0
def tw7443597625974325453:=0
def tw7656185327574250145:=0
def tw7726057927223770995:=0
def tw7913242901842624251:=0
def tw7925936578207724142:=0
def tw7955568026384555337:=0
def tw8040208809867910765:=0
def tw8069303289377724972:=0
def tw812909116777897199:=0
def tw8147236193783826997:=0
def tw816828086287069695:=0
def tw8242575896218005957:=0
def tw8299400859363290893:=0
def tw8363260010002962447:=0
def tw8424765528578522949:=0
def tw8435532228644531547:=0
def tw8463964683522344246:=0
def tw8490529008793116348:=0
def tw8611818047147211304:=0
def tw8653244658675974147:=0
def tw8698928056838870102:=0
def tw8983725768370028301:=0
def tw9203708362549571859:=0
def tw9208094106514242303:=0
def tw9229756905917574332:=0
def tw9399601338507015618:=0
def tw9420356378205621621:=0
def tw9494412299545196181:=0
def tw9598592358683275552:=0
def tw961636269107116283:=0
def tw9651317027356788535:=0
def tw9738084893517519130:=0
def tw992806867630810106:=0
def tw9944250997672206744:=0
end PySem.W.Fast
open PySem PySem.W PyProof.Rows
set_option maxRecDepth 100000 in
set_option maxHeartbeats 0 in
theorem PySem.Challenge.cw_mustmeet_k19_whole_drawings_told_otherwi_holds : PySem.Challenge.rw_mustmeet_k19_whole_drawings_told_otherwi.Holds := by
  w_on; o_law; k_head; (case hw => w_witness2)
  k_fill
  refine My.walk (l := PySem.Challenge.rw_mustmeet_k19_whole_drawings_told_otherwi) rfl rfl (fun w h Y => PySem.W.kIn_of Y) ?F
  case F =>
    intro w mg fa h KX G hmg
    refine' My.all_mk KX G hmg ?a0 ?l0 ?c0 ?k0 ?a1 ?l1 ?c1 ?k1 ?a2 ?l2 ?c2 ?k2 ?a3 ?l3 ?c3 ?k3 ?a4 ?l4 ?c4 ?k4 ?a5 ?l5 ?c5 ?k5 ?a6 ?l6 ?c6 ?k6 ?a7 ?l7 ?c7 ?k7 ?a8 ?l8 ?c8 ?k8 ?a9 ?l9 ?c9 ?k9 ?a10 ?l10 ?c10 ?k10 ?a11 ?l11 ?c11 ?k11 ?a12 ?l12 ?c12 ?k12 ?a13 ?l13 ?c13 ?k13 ?a14 ?l14 ?c14 ?k14 ?a15 ?l15 ?c15 ?k15 ?a16 ?l16 ?c16 ?k16 ?a17 ?l17 ?c17 ?k17 ?a18 ?l18 ?c18 ?k18 ?a19 ?l19 ?c19 ?k19 ?a20 ?l20 ?c20 ?k20 ?a21 ?l21 ?c21 ?k21 ?a22 ?l22 ?c22 ?k22 ?a23 ?l23 ?c23 ?k23 ?a24 ?l24 ?c24 ?k24 ?a25 ?l25 ?c25 ?k25 ?z_enumerate ?z_int ?z_len ?z_list ?z_max ?z_min ?z_range ?z_sorted ?z_tuple
    (case a0 => k_is)
    (case l0 => k_is)
    (case c0 => k_is)
    (case k0 => k_is)
    (case a1 => k_is)
    (case l1 => k_is)
    (case c1 => k_is)
    (case k1 => k_is)
    (case a2 => k_is)
    (case l2 => k_is)
    (case c2 => k_is)
    (case k2 => k_is)
    (case a3 => k_is)
    (case l3 => k_is)
    (case c3 => k_is)
    (case k3 => k_is)
    (case a4 => k_is)
    (case l4 => k_is)
    (case c4 => k_is)
    (case k4 => k_is)
    (case a5 => k_is)
    (case l5 => k_is)
    (case c5 => k_is)
    (case k5 => k_is)
    (case a6 => k_is)
    (case l6 => k_is)
    (case c6 => k_is)
    (case k6 => k_is)
    (case a7 => k_is)
    (case l7 => k_is)
    (case c7 => k_is)
    (case k7 => k_is)
    (case a8 => k_is)
    (case l8 => k_is)
    (case c8 => k_is)
    (case k8 => k_is)
    (case a9 => k_is)
    (case l9 => k_is)
    (case c9 => k_is)
    (case k9 => k_is)
    (case a10 => k_is)
    (case l10 => k_is)
    (case c10 => k_is)
    (case k10 => k_is)
    (case a11 => k_is)
    (case l11 => k_is)
    (case c11 => k_is)
    (case k11 => k_is)
    (case a12 => k_is)
    (case l12 => k_is)
    (case c12 => k_is)
    (case k12 => k_is)
    (case a13 => k_is)
    (case l13 => k_is)
    (case c13 => k_is)
    (case k13 => k_is)
    (case a14 => k_is)
    (case l14 => k_is)
    (case c14 => k_is)
    (case k14 => k_is)
    (case a15 => k_is)
    (case l15 => k_is)
    (case c15 => k_is)
    (case k15 => k_is)
    (case a16 => k_is)
    (case l16 => k_is)
    (case c16 => k_is)
    (case k16 => k_is)
    (case a17 => k_is)
    (case l17 => k_is)
    (case c17 => k_is)
    (case k17 => k_is)
    (case a18 => k_is)
    (case l18 => k_is)
    (case c18 => k_is)
    (case k18 => k_is)
    (case a19 => k_is)
    (case l19 => k_is)
    (case c19 => k_is)
    (case k19 => k_is)
    (case a20 => k_is)
    (case l20 => k_is)
    (case c20 => k_is)
    (case k20 => k_is)
    (case a21 => k_is)
    (case l21 => k_is)
    (case c21 => k_is)
    (case k21 => k_is)
    (case a22 => k_is)
    (case l22 => k_is)
    (case c22 => k_is)
    (case k22 => k_is)
    (case a23 => k_is)
    (case l23 => k_is)
    (case c23 => k_is)
    (case k23 => k_is)
    (case a24 => k_is)
    (case l24 => k_is)
    (case c24 => k_is)
    (case k24 => k_is)
    (case a25 => k_is)
    (case l25 => k_is)
    (case c25 => k_is)
    (case k25 => k_is)
    (case z_enumerate => k_is)
    (case z_int => k_is)
    (case z_len => k_is)
    (case z_list => k_is)
    (case z_max => k_is)
    (case z_min => k_is)
    (case z_range => k_is)
    (case z_sorted => k_is)
    (case z_tuple => k_is)
