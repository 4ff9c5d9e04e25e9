import PyProof.Rows.All
import Wide.All
import OpenK.AllK
import Wide.FinOn
import Lean
import PyProof.EqAt
import PyProof.EqKinds
import PyProof.TupleCall
import PySem.Challenge.RW_mustmeet_k60_programs_as_texts
set_option Elab.async false
set_option linter.all false
set_option maxRecDepth 100000
namespace L2
open PySem PySem.Spec PyProof.Rows
noncomputable abbrev Key := Sum Int Str
noncomputable def keyIs : Key -> Value -> Bool
  | .inl k, v => Value.isInt k v
  | .inr x, v => Value.isStrOf x v
noncomputable def keyH (w : World) : Key -> Int
  | .inl k => hashInt k
  | .inr x => hashStr w x
theorem keyIs_shape : ∀ {k : Key} {v : Value}, keyIs k v = true -> (∃ i t, k = Sum.inl i /\ v = Value.int i t) \/ (∃ x t, k = Sum.inr x /\ v = Value.str x t)
  | .inl i, v, h => by
    obtain ⟨t, e⟩ := Value.isInt_shape (k := i) (v := v) h
    exact .inl ⟨i, t, rfl, e⟩
  | .inr x, v, h => by
    obtain ⟨t, e⟩ := Value.isStrOf_shape (x := x) (v := v) h
    exact .inr ⟨x, t, rfl, e⟩
theorem keyIs_int (i : Int) (t : Tok) : keyIs (.inl i) (.int i t) = true := by simp [keyIs, Value.isInt]
theorem keyIs_str (x : Str) (t : Tok) : keyIs (.inr x) (.str x t) = true := by simp [keyIs, Value.isStrOf]
theorem key_ll (a b : Int) : decide ((Sum.inl a : Key) = Sum.inl b) = (a == b) := by
  by_cases e : a = b
  · subst e; simp
  · have h : ¬ (Sum.inl a : Key) = Sum.inl b := fun q => e (Sum.inl.inj q)
    rw [decide_eq_false h]
    exact (beq_eq_false_iff_ne.mpr e).symm
theorem key_rr (a b : Str) : decide ((Sum.inr a : Key) = Sum.inr b) = decide (a = b) := by
  by_cases e : a = b
  · subst e; simp
  · have h : ¬ (Sum.inr a : Key) = Sum.inr b := fun q => e (Sum.inr.inj q)
    rw [decide_eq_false h, decide_eq_false e]
theorem key_lr (a : Int) (b : Str) : decide ((Sum.inl a : Key) = Sum.inr b) = false := decide_eq_false (fun q => nomatch q)
theorem key_rl (a : Str) (b : Int) : decide ((Sum.inr a : Key) = Sum.inl b) = false := decide_eq_false (fun q => nomatch q)
noncomputable def mixKind (prog : Program) (w : World) : PySem.KeyKind prog w Key where
  is := keyIs
  hash := keyH w
  inj := fun v a b ha hb => by
    rcases keyIs_shape ha with ⟨i, t, rfl, rfl⟩ | ⟨x, t, rfl, rfl⟩
    · rcases keyIs_shape hb with ⟨j, u, rfl, e⟩ | ⟨y, u, rfl, e⟩
      · injection e with e1 _; rw [e1]
      · exact nomatch e
    · rcases keyIs_shape hb with ⟨j, u, rfl, e⟩ | ⟨y, u, rfl, e⟩
      · exact nomatch e
      · injection e with e1 _; rw [e1]
  byValue := fun k v h => by
    rcases keyIs_shape h with ⟨i, t, rfl, rfl⟩ | ⟨x, t, rfl, rfl⟩ <;> rfl
  pyHash := fun hv h => by
    rcases keyIs_shape hv with ⟨i, t, rfl, rfl⟩ | ⟨x, t, rfl, rfl⟩
    · exact wpAny_pyHash_int h
    · exact wpAny_pyHash_str h
  eqBool := fun hu hv h => by
    rcases keyIs_shape hu with ⟨i, t, rfl, rfl⟩ | ⟨x, t, rfl, rfl⟩
    · rcases keyIs_shape hv with ⟨j, u, rfl, rfl⟩ | ⟨y, u, rfl, rfl⟩
      · rw [key_ll] at h; exact wpAny_eqBool_int h
      · rw [key_lr] at h; exact SeqAt.EqAt.int_str i t y u _ _ _ _ h
    · rcases keyIs_shape hv with ⟨j, u, rfl, rfl⟩ | ⟨y, u, rfl, rfl⟩
      · rw [key_rl] at h; exact SeqAt.EqAt.str_int x t j u _ _ _ _ h
      · rw [key_rr] at h; exact wpAny_eqBool_str h
  «strs» := fun k x t v h => by
    rcases keyIs_shape h with ⟨i, u, rfl, e⟩ | ⟨y, u, rfl, e⟩
    · exact nomatch e
    · injection e with e1 _
      subst e1
      cases v <;> rfl
theorem mixKind_int (prog : Program) (w : World) (i : Int) (t : Tok) : (mixKind prog w).is (.inl i) (.int i t) = true := keyIs_int i t
theorem mixKind_str (prog : Program) (w : World) (x : Str) (t : Tok) : (mixKind prog w).is (.inr x) (.str x t) = true := keyIs_str x t
end L2
namespace L2
open PySem PySem.Spec PyProof.Rows
inductive V where
  | non | bl (b : Bool) | int (i : Int) | str (x : Str) | byt (b : Array UInt8) | flt (b : UInt64) | ref (a : Addr) | ty (n : String)
  deriving DecidableEq
noncomputable def RelV : V -> Value -> Prop
  | .non, u => u = Value.none
  | .bl b, u => u = Value.bool b
  | .int i, u => ∃ t, u = Value.int i t
  | .str x, u => ∃ t, u = Value.str x t
  | .byt b, u => ∃ t, u = Value.bytes b t
  | .flt b, u => ∃ t, u = Value.float b t
  | .ref a, u => u = Value.ref a
  | .ty n, u => u = Value.type n
noncomputable abbrev Vals : List V -> List Value -> Prop := Paired RelV
theorem Vals.length {xs : List V} {us : List Value} (r : Vals xs us) : xs.length = us.length := Paired.length r
theorem Vals.get : ∀ {xs : List V} {us : List Value} {i : Nat} {x : V}, Vals xs us -> xs[i]? = some x -> ∃ u, us[i]? = some u /\ RelV x u
  | _, _, _, _, .nil, e => by simp at e
  | _, _, 0, _, .cons r _, e => by simp at e; subst e; exact ⟨_, rfl, r⟩
  | _, _, i + 1, x, .cons _ t, e => by
    obtain ⟨u, h1, h2⟩ := Vals.get (i := i) (x := x) t (by simpa using e)
    exact ⟨u, by simpa using h1, h2⟩
theorem Vals.set {x : V} {u : Value} (r : RelV x u) : ∀ {xs : List V} {us : List Value} (i : Nat), Vals xs us -> Vals (xs.set i x) (us.set i u)
  | _, _, _, .nil => .nil
  | _, _, 0, .cons _ t => .cons r t
  | _, _, i + 1, .cons q t => .cons q (Vals.set r i t)
theorem Vals.append : ∀ {xs ys : List V} {us ws : List Value}, Vals xs us -> Vals ys ws -> Vals (xs ++ ys) (us ++ ws)
  | _, _, _, _, .nil, s => s
  | _, _, _, _, .cons r t, s => .cons r (Vals.append t s)
theorem Vals.take : ∀ {xs : List V} {us : List Value} (n : Nat), Vals xs us -> Vals (xs.take n) (us.take n)
  | _, _, 0, _ => .nil
  | _, _, _ + 1, .nil => .nil
  | _, _, n + 1, .cons r t => .cons r (Vals.take n t)
theorem Vals.drop : ∀ {xs : List V} {us : List Value} (n : Nat), Vals xs us -> Vals (xs.drop n) (us.drop n)
  | _, _, 0, r => r
  | _, _, _ + 1, .nil => .nil
  | _, _, n + 1, .cons _ t => Vals.drop n t
noncomputable def RelO : Option V -> Option Value -> Prop
  | some v, some u => RelV v u
  | none, none => True
  | _, _ => False
noncomputable def KV {κ : Type} : List (κ × V) -> List (κ × Value) -> Prop := Paired fun (p : κ × V) (q : κ × Value) => p.1 = q.1 /\ RelV p.2 q.2
noncomputable def kV : Key -> V
  | .inl i => .int i
  | .inr x => .str x
inductive HO where
    | lst (xs : List V)
    | tup (xs : List V)
    | dK (kvs : List (Key × V)) | dT (kvs : List (List Key × V))
    | set (S : Int -> Bool) (n : Nat)
    | ins (C dx : Addr) (fs : List (Str × V))
    | own (x : Addr)
    | xd (fs : List (Str × V))
    | met (f x : Addr)
    | rng (lo hi : Int)
    | frz (o : Obj) (u : HO)
    | tbl (ps : Array Value)
    | ext (φ : Heap -> Prop)
noncomputable abbrev Hp := Addr -> Option HO
noncomputable def upd (H : Hp) (a : Addr) (o : HO) : Hp := fun b => if b = a then some o else H b
theorem upd_same {H : Hp} {a : Addr} {o : HO} : upd H a o a = some o := by unfold upd; rw [if_pos rfl]
theorem upd_ne {H : Hp} {a b : Addr} {o : HO} (h : b ≠ a) : upd H a o b = H b := by unfold upd; rw [if_neg h]
theorem ne_of_none {H : Hp} {a b : Addr} {o : HO} (h : H a = some o) (h' : H b = none) : a ≠ b := by
  intro e; subst e; rw [h] at h'; cases h'
section
variable (P : Program) (w : World)
noncomputable def ObjOk (H : Hp) (h : Heap) (a : Addr) : HO -> Prop
  | .lst xs => xs.length <= sizeLine /\ ∃ (its : List Value) (n : Nat), Vals xs its /\ h.get? a = some { cls := .type "list", data := .seq its.toArray n }
  | .tup xs => xs.length <= sizeLine /\ ∃ its : List Value, Vals xs its /\ IsTup h a its.toArray
  | .dK kvs => kvs.length <= sizeLine /\ (a == sysModules) = false /\ ∃ vs, KV kvs vs /\ h.DictOf (mixKind P w) a vs
  | .dT kvs => kvs.length <= sizeLine /\ (a == sysModules) = false /\ ∃ xs : List (List Key × Addr × Value),
      Paired (fun (p : List Key × V) (q : List Key × Addr × Value) => p.1 = q.1 /\ H q.2.1 = some (.tup (p.1.map kV)) /\ RelV p.2 q.2.2) kvs xs /\
      ∃ o es ep, h.get? a = some o /\ o.ExactDict /\ o.data = .dict es ep /\ es.toList = xs.map (entryOfKey (tupleKind (mixKind P w))) /\ (xs.map (·.1)).Nodup
  | .set S n => h.SetOf (intKind P w) a S n
  | .ins C dx fs => H dx = some (.own a) /\ fs.length <= 1000 /\ dx ≠ a /\ h.get? a = some (PySem.W.instObj C dx) /\
      ∃ mA, h.Ns1 dx mA /\ (∀ f, RelO (fs.lookup f) (mA f)) /\ PySem.Within mA (fs.map (·.1))
  | .own _ => ∃ o, h.get? a = some o
  | .xd fs => ∃ mA, h.Ns1 a mA /\ ∀ f, RelO (fs.lookup f) (mA f)
  | .rng lo hi => ∃ t u v, h.get? a = some { cls := .type "range", data := .fields #[.int lo t, .int hi u, .int 1 v] }
  | .frz o u => h.get? a = some o /\ ObjOk H h a u
  | .tbl ps => h.get? a = some { cls := .none, data := .fields ps }
  | .met f x => h.get? a = some (PySem.W.methodObj (.ref f) (.ref x))
  | .ext φ => φ h /\ (∃ o, h.get? a = some o) /\ ∀ h1 h2 : Heap, φ h1 -> (∀ o, h1.get? a = some o -> h2.get? a = some o) -> φ h2
noncomputable def HOk (H : Hp) (h : Heap) : Prop := ∀ a o, H a = some o -> ObjOk P w H h a o
end
section
variable {P : Program} {w : World} {H H' : Hp} {h h' : Heap} {a : Addr} {o : HO}
theorem ObjOk.lt (x : ObjOk P w H h a o) : a < h.objs.size := by
  cases o with
  | lst xs => obtain ⟨_, _, _, _, e⟩ := x; exact Heap.lt_size e
  | tup xs => obtain ⟨_, _, _, p⟩ := x; exact p.lt
  | dK kvs => obtain ⟨_, _, _, _, o, _, _, e, _⟩ := x; exact Heap.lt_size e
  | dT kvs => obtain ⟨_, _, _, _, o, _, _, e, _⟩ := x; exact Heap.lt_size e
  | set S n => obtain ⟨o, _, _, _, e, _⟩ := x; exact Heap.lt_size e
  | ins C dx fs => obtain ⟨_, _, _, e, _⟩ := x; exact Heap.lt_size e
  | own y => obtain ⟨_, e⟩ := x; exact Heap.lt_size e
  | xd fs => obtain ⟨_, ⟨_, _, _, e, _⟩, _⟩ := x; exact Heap.lt_size e
  | rng lo hi => obtain ⟨_, _, _, e⟩ := x; exact Heap.lt_size e
  | frz ob u => obtain ⟨e, _⟩ := x; exact Heap.lt_size e
  | tbl ps => exact Heap.lt_size (show h.get? a = some _ from x)
  | met f y => exact Heap.lt_size (show h.get? a = some _ from x)
  | ext φ => obtain ⟨_, ⟨_, e⟩, _⟩ := x; exact Heap.lt_size e
theorem Paired.mapP {α β : Type} {F G : α -> β -> Prop} : ∀ {l₁ : List α} {l₂ : List β}, Paired F l₁ l₂ -> (∀ a b, F a b -> G a b) -> Paired G l₁ l₂
  | _, _, .nil, _ => .nil
  | _, _, .cons r t, f => .cons (f _ _ r) (Paired.mapP t f)
theorem ObjOk.stay (x : ObjOk P w H h a o) (k : ∀ b u, (b = a \/ H b = some (.own a)) -> h.get? b = some u -> h'.get? b = some u)
    (ho : ∀ b, H b = some (.own a) -> H' b = some (.own a)) (ht : ∀ b xs, H b = some (.tup xs) -> H' b = some (.tup xs)) : ObjOk P w H' h' a o := by
  induction o with
  | lst xs => obtain ⟨z, its, n, r, e⟩ := x; exact ⟨z, its, n, r, k _ _ (.inl rfl) e⟩
  | tup xs => obtain ⟨z, its, r, ob, e, c⟩ := x; exact ⟨z, its, r, ob, k _ _ (.inl rfl) e, c⟩
  | dK kvs => obtain ⟨z, y, vs, r, ob, es, ep, e, c⟩ := x; exact ⟨z, y, vs, r, ob, es, ep, k _ _ (.inl rfl) e, c⟩
  | dT kvs =>
    obtain ⟨z, y, xs, r, ob, es, ep, e, c⟩ := x
    exact ⟨z, y, xs, Paired.mapP r fun p q z => ⟨z.1, ht _ _ z.2.1, z.2.2⟩, ob, es, ep, k _ _ (.inl rfl) e, c⟩
  | set S n => obtain ⟨ob, es, ep, t, e, c⟩ := x; exact ⟨ob, es, ep, t, k _ _ (.inl rfl) e, c⟩
  | ins C dx fs =>
    obtain ⟨d, z, ne, e, mA, ⟨od, es, ep, e2, c⟩, r⟩ := x
    exact ⟨ho _ d, z, ne, k _ _ (.inl rfl) e, mA, ⟨od, es, ep, k _ _ (.inr d) e2, c⟩, r⟩
  | own y => obtain ⟨ob, e⟩ := x; exact ⟨ob, k _ _ (.inl rfl) e⟩
  | xd fs => obtain ⟨mA, ⟨od, es, ep, e, c⟩, r⟩ := x; exact ⟨mA, ⟨od, es, ep, k _ _ (.inl rfl) e, c⟩, r⟩
  | rng lo hi => obtain ⟨t, u, v, e⟩ := x; exact ⟨t, u, v, k _ _ (.inl rfl) e⟩
  | frz ob u ih => obtain ⟨e, q⟩ := x; exact ⟨k _ _ (.inl rfl) e, ih q⟩
  | tbl ps =>
    have e : h.get? a = some { cls := .none, data := .fields ps } := x
    show h'.get? a = some { cls := .none, data := .fields ps }
    exact k a _ (.inl rfl) e
  | met f y =>
    have e : h.get? a = some (PySem.W.methodObj (.ref f) (.ref y)) := x
    show h'.get? a = some (PySem.W.methodObj (.ref f) (.ref y))
    exact k a _ (.inl rfl) e
  | ext φ => obtain ⟨p, ⟨o, e⟩, st⟩ := x; exact ⟨st _ _ p fun o q => k _ _ (.inl rfl) q, ⟨o, k _ _ (.inl rfl) e⟩, st⟩
theorem HOk.lt (x : HOk P w H h) (e : H a = some o) : a < h.objs.size := (x a o e).lt
theorem HOk.fresh (x : HOk P w H h) (e : h.objs.size <= a) : H a = none := by
  cases q : H a with
  | none => rfl
  | some u => exact absurd (Nat.lt_of_lt_of_le (x.lt q) e) (Nat.lt_irrefl _)
theorem HOk.kept (x : HOk P w H h) (k : ∀ b u, h.get? b = some u -> h'.get? b = some u) : HOk P w H h' := fun a o e =>
  (x a o e).stay (fun b u _ q => k b u q) (fun _ q => q) fun _ _ q => q
theorem HOk.laid (x : HOk P w H h) (k : ∀ b u, h.get? b = some u -> h'.get? b = some u) (hp : h.objs.size <= a) (new : ObjOk P w (upd H a o) h' a o) : HOk P w (upd H a o) h' := fun b u e => by
  have hn := x.fresh hp
  by_cases hb : b = a
  · subst hb; rw [upd_same] at e; cases e; exact new
  · rw [upd_ne hb] at e
    exact (x b u e).stay (fun c v _ q => k c v q) (fun c q => by rw [upd_ne (ne_of_none q hn)]; exact q) fun c xs q => by rw [upd_ne (ne_of_none q hn)]; exact q
end
noncomputable def Rd (H : Hp) (a : Addr) (u : HO) : Prop := H a = some u \/ ∃ o, H a = some (.frz o u)
theorem Rd.ok {P : Program} {w : World} {H : Hp} {h : Heap} {a : Addr} {u : HO} (r : Rd H a u) (x : HOk P w H h) : ObjOk P w H h a u := by
  rcases r with r | ⟨o, r⟩
  · exact x a u r
  · obtain ⟨_, q⟩ := x a _ r
    exact q
noncomputable def Mut : Option HO -> Prop
  | some (.lst _) => True
  | some (.dK _) => True
  | some (.dT _) => True
  | some (.set _ _) => True
  | some (.ins _ _ _) => True
  | some (.ext _) => True
  | _ => False
section
variable {P : Program} {w : World} {H : Hp} {h h' : Heap} {x e : Addr} {o' : HO}
theorem HOk.write (ok : HOk P w H h) (mu : Mut (H x)) (he : e = x \/ H e = some (.own x)) (k : ∀ b u, b ≠ e -> h.get? b = some u -> h'.get? b = some u) (heo : ∃ u, h'.get? e = some u)
    (new : ObjOk P w (upd H x o') h' x o') : HOk P w (upd H x o') h' := fun b u q => by
  have nown : ∀ c y, H c = some (.own y) -> c ≠ x := fun c y r z => by subst z; rw [r] at mu; exact mu
  have ntup : ∀ c xs, H c = some (.tup xs) -> c ≠ x := fun c xs r z => by subst z; rw [r] at mu; exact mu
  by_cases hb : b = x
  · subst hb; rw [upd_same] at q; cases q; exact new
  · rw [upd_ne hb] at q
    by_cases hbe : b = e
    · have q' : H b = some (.own x) := by
        rcases he with z | z
        · exact absurd (hbe.trans z) hb
        · rw [hbe]; exact z
      rw [q] at q'; cases q'
      obtain ⟨v, hv⟩ := heo
      exact ⟨v, by rw [hbe]; exact hv⟩
    · refine (ok b u q).stay (fun c v hc r => k c v ?_ r) (fun c r => by rw [upd_ne (nown c b r)]; exact r) fun c xs r => by rw [upd_ne (ntup c xs r)]; exact r
      rcases hc with rfl | hc
      · exact hbe
      · rintro rfl
        rcases he with z | z
        · exact nown c b hc z
        · rw [hc] at z; cases z; exact hb rfl
end
structure Un (fs ex : List Addr) (H H' : Hp) (h h' : Heap) : Prop where
  keep : ∀ b o, h.get? b = some o -> H b = none -> b ∉ fs -> b ∉ ex -> h'.get? b = some o
  slot : ∀ b o, h.get? b = some o -> H b = none -> b ∈ fs -> b ∉ ex -> ∃ sl, h'.get? b = some { o with slots := sl }
  free : ∀ b o, h.get? b = some o -> H b = none -> b ∉ ex -> H' b = none
  there : ∀ b o, h.get? b = some o -> b ∉ ex -> ∃ o', h'.get? b = some o'
  tups : ∀ b xs, H b = some (.tup xs) -> H' b = some (.tup xs)
  frzs : ∀ b o u, H b = some (.frz o u) -> H' b = some (.frz o u)
  tbls : ∀ b ps, H b = some (.tbl ps) -> ∃ more, H' b = some (.tbl (ps ++ more))
section
variable {fs fs' ex ex' : List Addr} {H H1 H2 : Hp} {h h1 h2 h' : Heap} {a x e : Addr} {o : HO}
theorem Un.any (u : Un fs ex H H1 h h1) {b : Addr} {ob : Obj} (q : h.get? b = some ob) (n : H b = none) (hx : b ∉ ex) : ∃ sl, h1.get? b = some { ob with slots := sl } := by
  by_cases hb : b ∈ fs
  · exact u.slot b ob q n hb hx
  · exact ⟨ob.slots, u.keep b ob q n hb hx⟩
theorem Un.kept (k : ∀ b u, h.get? b = some u -> h'.get? b = some u) : Un fs ex H H h h' :=
  ⟨fun b ob q _ _ _ => k b ob q, fun b ob q _ _ _ => ⟨ob.slots, k b ob q⟩, fun _ _ _ n _ => n, fun b ob q _ => ⟨ob, k b ob q⟩, fun _ _ q => q, fun _ _ _ q => q, fun _ ps q => ⟨#[], by rw [q]; simp⟩⟩
theorem Un.refl : Un fs ex H H h h := Un.kept fun _ _ q => q
theorem Un.laid (k : ∀ b u, h.get? b = some u -> h'.get? b = some u) (hp : h.objs.size <= a) (hn : H a = none) : Un fs ex H (upd H a o) h h' where
  keep := fun b u q _ _ _ => k b u q
  slot := fun b u q _ _ _ => ⟨u.slots, k b u q⟩
  free := fun b u q n _ => by rw [upd_ne (Nat.ne_of_lt (Nat.lt_of_lt_of_le (Heap.lt_size q) hp))]; exact n
  there := fun b u q _ => ⟨u, k b u q⟩
  tups := fun b xs q => by rw [upd_ne (ne_of_none q hn)]; exact q
  frzs := fun b u xs q => by rw [upd_ne (ne_of_none q hn)]; exact q
  tbls := fun b ps q => ⟨#[], by rw [upd_ne (ne_of_none q hn), q]; simp⟩
theorem Un.write (mu : Mut (H x)) (he : e = x \/ H e = some (.own x)) (k : ∀ b u, b ≠ e -> h.get? b = some u -> h'.get? b = some u) (heo : ∃ u, h'.get? e = some u) : Un fs ex H (upd H x o) h h' := by
  have hx : ∀ b, H b = none -> b ≠ x := fun b n z => by subst z; rw [n] at mu; exact mu
  have hb : ∀ b, H b = none -> b ≠ e := fun b n z => by
    subst z
    rcases he with r | r
    · exact hx b n r
    · rw [n] at r; cases r
  have hm : ∀ b u, H b = some u -> ¬ Mut (some u) -> b ≠ x := fun b u q nm z => by subst z; rw [q] at mu; exact nm mu
  refine ⟨fun b u q n _ _ => k b u (hb b n) q, fun b u q n _ _ => ⟨u.slots, k b u (hb b n) q⟩, fun b u q n _ => by rw [upd_ne (hx b n)]; exact n, fun b u q _ => ?_,
    fun b xs q => by rw [upd_ne (hm b _ q fun z => z)]; exact q, fun b u xs q => by rw [upd_ne (hm b _ q fun z => z)]; exact q, fun b ps q => ⟨#[], by rw [upd_ne (hm b _ q fun z => z), q]; simp⟩⟩
  by_cases hbe : b = e
  · subst hbe; exact heo
  · exact ⟨u, k b u hbe q⟩
end
noncomputable def trk (h : Heap) (H : Hp) : List Addr := (List.range h.objs.size).filter fun a => (H a).isSome
noncomputable def hidT (h : Heap) (H : Hp) : Heap := PySem.W.hideAll h (trk h H)
theorem hidT_size (h : Heap) (H : Hp) : (hidT h H).objs.size = h.objs.size := PySem.W.hideAll_size _ _
theorem hidT_get {h : Heap} {H : Hp} {b : Addr} {o : Obj} (e : h.get? b = some o) (n : H b = none) : (hidT h H).get? b = some o :=
  PySem.W.hideAll_get _ e fun hm => by
    have q : (H b).isSome = true := (List.mem_filter.mp hm).2
    rw [n] at q; simp at q
theorem of_hidT {h : Heap} {H : Hp} {b : Addr} {o : Obj} (e : (hidT h H).get? b = some o) : h.get? b = some o /\ H b = none := by
  have e' : h.get? b = some o := PySem.W.of_hideAll (trk h H) e
  refine ⟨e', ?_⟩
  cases q : H b with
  | none => rfl
  | some x =>
    have hm : b ∈ trk h H := List.mem_filter.mpr ⟨List.mem_range.mpr (Heap.lt_size e'), by simp [q]⟩
    have z : (hidT h H).get? b = none := PySem.W.hideAll_none (trk h H) hm
    rw [z] at e; cases e
noncomputable def allNews (g h : Heap) (L : Addr) : List (Addr × Obj) := (List.range h.objs.size).filterMap fun a => if a = L \/ (g.get? a).isSome = true then none else (h.get? a).map fun o => (a, o)
noncomputable def rest (g h : Heap) (L d : Addr) : List (Addr × Obj) := (allNews g h L).filter fun p => decide (p.1 ≠ d)
end L2
namespace L2
open PySem PySem.Spec PyProof.Rows
structure Mod (K : PySem.W.Frag) (mg : Str -> Option Value) (base : Heap) : Prop where
  kin : K.In base
  glob : base.Ns mainGlobals mg
  blt : ∃ mb, base.Ns builtinsNs mb /\ ∀ x : Str, x ≠ "__name__" -> mb x = bootBuiltins x
  nolimit : base.NoLimit
structure Cx where
  prog : Program
  w : World
  K : PySem.W.Frag
  mg : Str -> Option Value
  base : Heap
  A : Around
  N : List Str
  s₀ : Shared
  H₀ : Hp
  env : Env
  outer : List Env
  stack : List Env
  ex : List Addr
  fn : Str -> Bool
  calm : Bool
  pn : List (Addr × Obj)
  xe : Value -> Shared -> Prop
noncomputable def frs (l : List Env) : List Addr := l.filterMap (·.frame)
noncomputable abbrev Cx.fs (X : Cx) : List Addr := frs X.outer
noncomputable def Vis (sc : Scope) (x : Str) : Prop := sc.names.lookup x = some .local \/ sc.names.lookup x = some .cell \/ sc.names.lookup x = some .free
noncomputable def Loc (sc : Scope) (x : Str) : Prop := sc.names.lookup x = some .local \/ sc.names.lookup x = some .cell
noncomputable def Look (env : Env) (h : Heap) (m : Str -> Option Value) (x : Str) (u : Value) : Prop :=
  (env.kindOf x = some .local /\ m x = some u) \/ ((env.kindOf x = some .cell \/ env.kindOf x = some .free) /\ ∃ c, env.cells.lookup x = some c /\ h.IsCell c (some u))
structure Cx.Ok (X : Cx) : Prop where
  mod : Mod X.K X.mg X.base
  kind : X.env.scope.kind = .function
  glob : X.env.globals = mainGlobals
  blt : X.env.builtins = builtinsNs
  above : X.s₀.heap.objs.size <= X.env.locals
  inj : ∀ x y c, X.env.cells.lookup x = some c -> X.env.cells.lookup y = some c -> x = y
  has : ∀ x, (X.env.kindOf x = some .cell \/ X.env.kindOf x = some .free) -> ∃ c, X.env.cells.lookup x = some c
  cab : ∀ x c, X.fn x = true -> X.env.cells.lookup x = some c -> X.s₀.heap.objs.size <= c
  hd : X.calm = true -> X.A.handled = none
  frames : X.A.frames = some X.stack
  stk : X.stack = X.outer \/ (X.stack = X.env :: X.outer /\ X.env.frame = some X.env.locals)
  exf : ∀ b ∈ X.ex, b ≠ X.env.locals /\ ∀ x c, X.env.cells.lookup x = some c -> c ≠ b
  bs : ∀ b o, X.base.get? b = some o -> X.s₀.heap.get? b = some o /\ X.H₀ b = none
  bsz : X.base.objs.size <= X.s₀.heap.objs.size
  noex : ∀ b o, X.base.get? b = some o -> b ∉ X.ex
  exfs : ∀ b ∈ X.ex, b ∉ X.fs
  funs : X.s₀.heap.FunFrames X.base X.outer
  frf : ∀ b ∈ X.fs, X.H₀ b = none
structure Inv (X : Cx) (pins : List (Addr × Obj)) (σ : List (Option V)) (H : Hp) (s : Shared) : Prop where
  ok : X.Ok
  os : s.os = X.s₀.os
  bare : AllBare s.gens
  base : Un X.fs X.ex X.H₀ H X.s₀.heap s.heap
  loc : ∃ m, s.heap.Ns X.env.locals m /\ ∀ (i : Nat) (x : Str) (v : V), X.N[i]? = some x -> σ[i]? = some (some v) -> Vis X.env.scope x -> ∃ u, RelV v u /\ Look X.env s.heap m x u
  cell : ∀ x c, X.env.cells.lookup x = some c -> ∃ v, s.heap.IsCell c v
  free : H X.env.locals = none
  freeC : ∀ x c, X.env.cells.lookup x = some c -> H c = none
  pin : ∀ p ∈ X.pn ++ pins, s.heap.get? p.1 = some p.2 /\ H p.1 = none /\ p.1 ≠ X.env.locals /\ p.1 ∉ X.fs /\ ∀ v, p.2.data ≠ .cell v
  hok : HOk X.prog X.w H s.heap
  len : σ.length = X.N.length
section
variable {X : Cx} {pins : List (Addr × Obj)} {σ : List (Option V)} {H H' : Hp} {s : Shared} {h' : Heap}
theorem Cx.Ok.nofr (ok : X.Ok) {b : Addr} {o : Obj} (e : X.base.get? b = some o) : b ∉ X.fs := fun hb => by
  have := (ok.funs.mem hb).1
  rw [e] at this; cases this
theorem Inv.bs (I : Inv X pins σ H s) : ∀ b o, X.base.get? b = some o -> s.heap.get? b = some o /\ H b = none := fun b o e =>
  ⟨I.base.keep b o (I.ok.bs b o e).1 (I.ok.bs b o e).2 (I.ok.nofr e) (I.ok.noex b o e), I.base.free b o (I.ok.bs b o e).1 (I.ok.bs b o e).2 (I.ok.noex b o e)⟩
theorem Inv.bk (I : Inv X pins σ H s) : ∀ b o, X.base.get? b = some o -> s.heap.get? b = some o := fun b o e => (I.bs b o e).1
theorem Inv.mod (I : Inv X pins σ H s) : Mod X.K X.mg X.base := I.ok.mod
theorem Inv.kIn (I : Inv X pins σ H s) : X.K.In s.heap := I.ok.mod.kin.keeps I.bk
theorem Inv.lt (I : Inv X pins σ H s) : X.env.locals < s.heap.objs.size := let ⟨_, hn, _⟩ := I.loc; hn.lt
theorem Inv.sz (I : Inv X pins σ H s) : X.s₀.heap.objs.size <= s.heap.objs.size := Nat.le_trans I.ok.above (Nat.le_of_lt I.lt)
theorem Inv.nofs (I : Inv X pins σ H s) {a : Addr} (h : s.heap.objs.size <= a) : a ∉ X.fs := fun hb => by
  obtain ⟨_, o, ho, _⟩ := I.ok.funs.mem hb
  exact absurd (Nat.lt_of_lt_of_le (Heap.lt_size ho) (Nat.le_trans I.sz h)) (Nat.lt_irrefl _)
theorem Inv.cne (I : Inv X pins σ H s) : ∀ x c, X.env.cells.lookup x = some c -> c ≠ X.env.locals := fun x c e z => by
  obtain ⟨v, o, ho, hd⟩ := I.cell x c e
  obtain ⟨m, ⟨o', es, ep, ho', hd', _⟩, _⟩ := I.loc
  rw [z, ho'] at ho; cases ho; rw [hd'] at hd; cases hd
theorem Inv.funs (I : Inv X pins σ H s) : s.heap.FunFrames X.base X.outer := by
  have all : ∀ (l : List Env), (∀ b ∈ frs l, b ∈ X.fs) -> X.s₀.heap.FunFrames X.base l -> s.heap.FunFrames X.base l := by
    intro l
    induction l with
    | nil => intro _ _; trivial
    | cons env r ih =>
      intro hs hl
      obtain ⟨hk, ⟨L, o, hf, hn, ho, hd⟩, hr⟩ := hl
      have hL : L ∈ X.fs := hs L (by unfold frs; rw [List.filterMap_cons, hf]; exact List.mem_cons_self)
      obtain ⟨sl, e⟩ := I.base.slot L o ho (I.ok.frf L hL) hL fun z => I.ok.exfs L z hL
      exact ⟨hk, ⟨L, _, hf, hn, e, hd⟩, ih (fun b hb => hs b (by unfold frs; rw [List.filterMap_cons, hf]; exact List.mem_cons_of_mem _ hb)) hr⟩
  exact all X.outer (fun _ hb => hb) I.ok.funs
theorem Inv.stack (I : Inv X pins σ H s) : s.heap.FunFrames X.base X.stack := by
  rcases I.ok.stk with e | ⟨e, hf⟩
  · rw [e]; exact I.funs
  · rw [e]
    obtain ⟨m, hn, _⟩ := I.loc
    refine .cons (by rw [I.ok.kind]; decide) hf hn ?_ I.funs
    exact Heap.get?_none_of_le (Nat.le_trans I.ok.bsz I.ok.above)
theorem Inv.stkSub (I : Inv X pins σ H s) : ∀ b ∈ frs X.stack, b ∈ X.env.locals :: X.fs := fun b hb => by
  rcases I.ok.stk with e | ⟨e, hf⟩
  · rw [e] at hb; exact List.mem_cons_of_mem _ hb
  · rw [e] at hb
    unfold frs at hb
    rw [List.filterMap_cons, hf] at hb
    exact hb
theorem Inv.stkFree (I : Inv X pins σ H s) : ∀ b ∈ frs X.stack, H b = none := fun b hb => by
  rcases List.mem_cons.mp (I.stkSub b hb) with e | hb
  · rw [e]; exact I.free
  · obtain ⟨_, o, ho, _⟩ := I.ok.funs.mem hb
    exact I.base.free b o ho (I.ok.frf b hb) fun z => I.ok.exfs b z hb
theorem Inv.step {g' : Array GenState} {t' : Nat} {d' : Drawn} {ch : List Addr} (I : Inv X pins σ H s)
    (hch : ∀ b ∈ ch, (b ∈ X.ex \/ X.s₀.heap.objs.size <= b) /\ b ≠ X.env.locals /\ (∀ x c, X.env.cells.lookup x = some c -> c ≠ b) /\ ∀ p ∈ X.pn ++ pins, p.1 ≠ b)
    (keep : ∀ b o, b ≠ X.env.locals -> b ∉ X.fs -> b ∉ ch -> s.heap.get? b = some o -> H b = none -> h'.get? b = some o)
    (slot : ∀ b o, b ≠ X.env.locals -> b ∈ X.fs -> b ∉ ch -> s.heap.get? b = some o -> H b = none -> ∃ sl, h'.get? b = some { o with slots := sl }) (free : ∀ b o, b ∉ ch -> s.heap.get? b = some o -> H b = none -> H' b = none)
    (there : ∀ b o, b ∉ ch -> s.heap.get? b = some o -> ∃ o', h'.get? b = some o')
    (tups : ∀ b xs, H b = some (.tup xs) -> H' b = some (.tup xs)) (frzs : ∀ b o u, H b = some (.frz o u) -> H' b = some (.frz o u)) (tbls : ∀ b ps, H b = some (.tbl ps) -> ∃ more, H' b = some (.tbl (ps ++ more)))
    (ns : ∀ m, s.heap.Ns X.env.locals m -> h'.Ns X.env.locals m) (hok : HOk X.prog X.w H' h') (hg : AllBare g') :
    Inv X pins σ H' { s with heap := h', gens := g', drawn := d', toks := t' } := by
  have neL : ∀ b o, X.s₀.heap.get? b = some o -> b ≠ X.env.locals := fun b o e => Nat.ne_of_lt (Nat.lt_of_lt_of_le (Heap.lt_size e) I.ok.above)
  have neC : ∀ b o, X.s₀.heap.get? b = some o -> b ∉ X.ex -> b ∉ ch := fun b o e hx hb => by
    rcases (hch b hb).1 with z | z
    · exact hx z
    · exact absurd (Nat.lt_of_lt_of_le (Heap.lt_size e) z) (Nat.lt_irrefl _)
  have cellK : ∀ x c, X.env.cells.lookup x = some c -> ∀ v, s.heap.IsCell c v -> h'.IsCell c v := fun x c e v ⟨o, ho, hd⟩ => by
    have nch : c ∉ ch := fun z => (hch c z).2.2.1 x c e rfl
    by_cases hc : c ∈ X.fs
    · obtain ⟨sl, q⟩ := slot c o (I.cne x c e) hc nch ho (I.freeC x c e)
      exact ⟨_, q, hd⟩
    · exact ⟨o, keep c o (I.cne x c e) hc nch ho (I.freeC x c e), hd⟩
  refine ⟨I.ok, I.os, hg, ⟨fun b o e n hb hx => ?_, fun b o e n hb hx => ?_, fun b o e n hx => ?_, fun b o e hx => ?_, fun b xs e => tups b xs (I.base.tups b xs e), fun b o xs e => frzs b o xs (I.base.frzs b o xs e), fun b ps e => ?_⟩, ?_, fun x c e => ?_, ?_, fun x c e => ?_, fun p hp => ?_, hok, I.len⟩
  · exact keep b o (neL b o e) hb (neC b o e hx) (I.base.keep b o e n hb hx) (I.base.free b o e n hx)
  · obtain ⟨sl, e1⟩ := I.base.slot b o e n hb hx
    obtain ⟨sl', e2⟩ := slot b _ (neL b o e) hb (neC b o e hx) e1 (I.base.free b o e n hx)
    exact ⟨sl', e2⟩
  · obtain ⟨o', e1⟩ := I.base.there b o e hx
    exact free b o' (neC b o e hx) e1 (I.base.free b o e n hx)
  · obtain ⟨o', e1⟩ := I.base.there b o e hx
    exact there b o' (neC b o e hx) e1
  · obtain ⟨m1, e1⟩ := I.base.tbls b ps e
    obtain ⟨m2, e2⟩ := tbls b _ e1
    exact ⟨m1 ++ m2, by rw [e2, Array.append_assoc]⟩
  · obtain ⟨m, hn, hl⟩ := I.loc
    refine ⟨m, ns m hn, fun i x v e1 e2 e3 => ?_⟩
    obtain ⟨u, r, l⟩ := hl i x v e1 e2 e3
    refine ⟨u, r, ?_⟩
    rcases l with l | ⟨k, c, e, z⟩
    · exact .inl l
    · exact .inr ⟨k, c, e, cellK x c e _ z⟩
  · obtain ⟨v, z⟩ := I.cell x c e
    exact ⟨v, cellK x c e v z⟩
  · obtain ⟨m, ⟨o, _, _, ho, _⟩, _⟩ := I.loc
    exact free _ o (fun z => (hch _ z).2.1 rfl) ho I.free
  · obtain ⟨v, o, ho, hd⟩ := I.cell x c e
    exact free c o (fun z => (hch c z).2.2.1 x c e rfl) ho (I.freeC x c e)
  · obtain ⟨e, n, ne, nf, d⟩ := I.pin p hp
    have nch : p.1 ∉ ch := fun z => (hch p.1 z).2.2.2 p hp rfl
    exact ⟨keep p.1 p.2 ne nf nch e n, free p.1 p.2 nch e n, ne, nf, d⟩
theorem Inv.un {t' : Nat} (I : Inv X pins σ H s) (u : Un X.fs [] H H' s.heap h') (hok : HOk X.prog X.w H' h') : Inv X pins σ H' { s with heap := h', toks := t' } := by
  obtain ⟨m, ⟨o, es, ep, ho, r⟩, _⟩ := id I.loc
  obtain ⟨sl, hL⟩ := u.any ho I.free (by simp)
  exact I.step (g' := s.gens) (d' := s.drawn) (ch := []) (fun _ z => nomatch z) (fun b o _ hb _ e n => u.keep b o e n hb (by simp)) (fun b o _ hb _ e n => u.slot b o e n hb (by simp)) (fun b o _ e n => u.free b o e n (by simp)) (fun b o _ e => u.there b o e (by simp)) u.tups u.frzs u.tbls (fun m' hm => by
    obtain ⟨o', es', ep', ho', r'⟩ := hm
    rw [ho] at ho'; cases ho'
    exact ⟨_, es', ep', hL, r'⟩) hok I.bare
theorem Inv.call {g' : Array GenState} {t' : Nat} {d' : Drawn} {ch : List Addr} (I : Inv X pins σ H s) (u : Un (frs X.stack) ch H H' s.heap h') (hok : HOk X.prog X.w H' h') (hg : AllBare g')
    (hch : ∀ b ∈ ch, (b ∈ X.ex \/ X.s₀.heap.objs.size <= b) /\ b ≠ X.env.locals /\ (∀ x c, X.env.cells.lookup x = some c -> c ≠ b) /\ ∀ p ∈ X.pn ++ pins, p.1 ≠ b) :
    Inv X pins σ H' { s with heap := h', gens := g', drawn := d', toks := t' } := by
  obtain ⟨m, ⟨o, es, ep, ho, r⟩, _⟩ := id I.loc
  obtain ⟨sl, hL⟩ := u.any ho I.free fun z => (hch _ z).2.1 rfl
  exact I.step (ch := ch) hch (fun b o hL hb hc e n => u.keep b o e n (fun z => (List.mem_cons.mp (I.stkSub b z)).elim hL hb) hc) (fun b o _ _ hc e n => u.any e n hc) (fun b o hc e n => u.free b o e n hc) (fun b o hc e => u.there b o e hc) u.tups u.frzs u.tbls (fun m' hm => by
    obtain ⟨o', es', ep', ho', r'⟩ := hm
    rw [ho] at ho'; cases ho'
    exact ⟨_, es', ep', hL, r'⟩) hok hg
theorem Inv.turned {t' : Nat} {it : Addr} (I : Inv X pins σ H s) (k : ∀ b o, b ≠ it -> s.heap.get? b = some o -> h'.get? b = some o) (hn : H it = none) (hL : it ≠ X.env.locals)
    (h1 : it ∈ X.ex \/ X.s₀.heap.objs.size <= it) (h2 : ∀ x c, X.env.cells.lookup x = some c -> c ≠ it) (h3 : ∀ p ∈ X.pn ++ pins, p.1 ≠ it) : Inv X pins σ H { s with heap := h', toks := t' } := by
  have nit : ∀ b u, H b = some u -> b ≠ it := fun b u e z => by rw [z, hn] at e; cases e
  refine I.step (g' := s.gens) (d' := s.drawn) (ch := [it]) (fun b hb => ?_) (fun b o _ _ hc e _ => k b o (fun z => hc (by simp [z])) e) (fun b o _ _ hc e _ => ⟨o.slots, k b o (fun z => hc (by simp [z])) e⟩) (fun _ _ _ _ n => n)
    (fun b o hc e => ⟨o, k b o (fun z => hc (by simp [z])) e⟩) (fun _ _ e => e) (fun _ _ _ e => e) (fun b ps e => ⟨#[], by rw [e]; simp⟩) (fun m hm => ?_) (fun b u e => ?_) I.bare
  · have e : b = it := by simpa using hb
    subst e
    exact ⟨h1, hL, h2, h3⟩
  · obtain ⟨o, es, ep, ho, r⟩ := hm
    exact ⟨o, es, ep, k _ o (Ne.symm hL) ho, r⟩
  · refine (I.hok b u e).stay (fun c v hc q => k c v ?_ q) (fun _ q => q) fun _ _ q => q
    rcases hc with z | z
    · rw [z]; exact nit b u e
    · exact nit c _ z
theorem Inv.tok (I : Inv X pins σ H s) (t : Nat) : Inv X pins σ H { s with toks := t } := I.un (h' := s.heap) (t' := t) Un.refl I.hok
theorem Inv.kept {t' : Nat} (I : Inv X pins σ H s) (k : ∀ b u, s.heap.get? b = some u -> h'.get? b = some u) : Inv X pins σ H { s with heap := h', toks := t' } := I.un (Un.kept k) (I.hok.kept k)
theorem Inv.laid {a : Addr} {o : HO} {t' : Nat} (I : Inv X pins σ H s) (k : ∀ b u, s.heap.get? b = some u -> h'.get? b = some u) (hp : s.heap.objs.size <= a) (new : ObjOk X.prog X.w (upd H a o) h' a o) :
    Inv X pins σ (upd H a o) { s with heap := h', toks := t' } := I.un (Un.laid k hp (I.hok.fresh hp)) (I.hok.laid k hp new)
theorem Inv.write {x e : Addr} {o : HO} {t' : Nat} (I : Inv X pins σ H s) (mu : Mut (H x)) (he : e = x \/ H e = some (.own x)) (k : ∀ b u, b ≠ e -> s.heap.get? b = some u -> h'.get? b = some u) (heo : ∃ u, h'.get? e = some u)
    (new : ObjOk X.prog X.w (upd H x o) h' x o) : Inv X pins σ (upd H x o) { s with heap := h', toks := t' } := I.un (Un.write mu he k heo) (I.hok.write mu he k heo new)
theorem Inv.weak {σ' : List (Option V)} (I : Inv X pins σ H s) (hl : σ'.length = σ.length) (w : ∀ (i : Nat) v, σ'[i]? = some (some v) -> σ[i]? = some (some v)) : Inv X pins σ' H s :=
  ⟨I.ok, I.os, I.bare, I.base, let ⟨m, hn, hl'⟩ := I.loc; ⟨m, hn, fun i x v e1 e2 e3 => hl' i x v e1 (w i v e2) e3⟩, I.cell, I.free, I.freeC, I.pin, I.hok, hl.trans I.len⟩
theorem Inv.pins_of {pins' : List (Addr × Obj)} (I : Inv X pins σ H s) (h : ∀ p ∈ pins', s.heap.get? p.1 = some p.2 /\ H p.1 = none /\ p.1 ≠ X.env.locals /\ p.1 ∉ X.fs /\ ∀ v, p.2.data ≠ .cell v) : Inv X pins' σ H s :=
  ⟨I.ok, I.os, I.bare, I.base, I.loc, I.cell, I.free, I.freeC, fun p hp => (List.mem_append.mp hp).elim (fun z => I.pin p (List.mem_append_left _ z)) (h p), I.hok, I.len⟩
theorem nodup_ix {N : List Str} (hN : N.Nodup) {i j : Nat} {x : Str} (a : N[i]? = some x) (b : N[j]? = some x) : i = j := by
  obtain ⟨h1, e1⟩ := List.getElem?_eq_some_iff.mp a
  obtain ⟨h2, e2⟩ := List.getElem?_eq_some_iff.mp b
  exact (List.getElem_inj hN).mp (e1.trans e2.symm)
theorem store_ok2 {M : Model} {A : Around} {E : Value -> Shared -> Prop} {i : Nat} {x : Str} {v : V} {u : Value} {Q : Unit -> Shared -> Prop} (I : Inv X pins σ H s) (hN : X.N.Nodup) (hi : X.N[i]? = some x) (hx : Loc X.env.scope x) (r : RelV v u)
    (h : ∀ s', Inv X pins (σ.set i (some v)) H s' -> (∃ a, Heap.SameBut a s.heap s'.heap /\ (a = X.env.locals \/ X.env.cells.lookup x = some a)) -> Q () s') (hf : X.fn x = true \/ X.env.scope.names.lookup x = some .local := by first | exact .inl rfl | exact .inr rfl | assumption) : wpAny M A (storeName X.env x u) Q E s := by
  obtain ⟨m, hn, hl⟩ := id I.loc
  have hcls : (X.env.scope.kind == .class || (X.env.scope.kind == .module && X.env.locals != X.env.globals)) = false := by rw [I.ok.kind]; rfl
  have hiσ : i < σ.length := by rw [I.len]; exact (List.getElem?_eq_some_iff.mp hi).1
  have cne := I.cne
  have tracked : ∀ {a : Addr} {h' : Heap}, (∃ o, s.heap.get? a = some o /\ H a = none) -> Heap.SameBut a s.heap h' -> HOk X.prog X.w H h' := fun {a h'} ha hs b ob e => by
    obtain ⟨_, _, hfree⟩ := ha
    refine (I.hok b ob e).stay (fun c w' hc q => (hs.2 c ?_).trans q) (fun _ q => q) fun _ _ q => q
    rintro rfl
    rcases hc with rfl | hc
    · rw [hfree] at e; cases e
    · rw [hfree] at hc; cases hc
  rcases hx with hk | hk
  · refine wpAny_storeName_local hk hn (fun h' hn' hs => ?_) hcls
    obtain ⟨oL, _, _, hoL, _⟩ := id hn
    refine h _ ⟨I.ok, I.os, I.bare, ⟨fun b o e n hb hx => ?_, fun b o e n hb hx => ?_, I.base.free, fun b o e hx => ?_, I.base.tups, I.base.frzs, I.base.tbls⟩, ⟨_, hn', fun j y v' e1 e2 e3 => ?_⟩, fun y c e => ?_, I.free, I.freeC, fun p hp => ?_, tracked ⟨oL, hoL, I.free⟩ hs, by simpa using I.len⟩ ⟨_, hs, .inl rfl⟩
    · exact (hs.2 b (Nat.ne_of_lt (Nat.lt_of_lt_of_le (Heap.lt_size e) I.ok.above))).trans (I.base.keep b o e n hb hx)
    · obtain ⟨sl, e1⟩ := I.base.slot b o e n hb hx
      exact ⟨sl, (hs.2 b (Nat.ne_of_lt (Nat.lt_of_lt_of_le (Heap.lt_size e) I.ok.above))).trans e1⟩
    · obtain ⟨o', e1⟩ := I.base.there b o e hx
      exact ⟨o', (hs.2 b (Nat.ne_of_lt (Nat.lt_of_lt_of_le (Heap.lt_size e) I.ok.above))).trans e1⟩
    · by_cases hj : j = i
      · subst hj
        rw [hi] at e1; cases e1
        rw [List.getElem?_set_self hiσ] at e2
        cases e2
        exact ⟨u, r, .inl ⟨hk, by simp⟩⟩
      · rw [List.getElem?_set_ne (Ne.symm hj)] at e2
        obtain ⟨u', r', q⟩ := hl j y v' e1 e2 e3
        refine ⟨u', r', ?_⟩
        rcases q with ⟨k, e⟩ | ⟨k, c, e, z⟩
        · refine .inl ⟨k, ?_⟩
          have : y ≠ x := fun e => hj (nodup_ix hN e1 (e ▸ hi))
          simp [this, e]
        · exact .inr ⟨k, c, e, z.sameBut hs (cne y c e)⟩
    · obtain ⟨w', z⟩ := I.cell y c e
      exact ⟨w', z.sameBut hs (cne y c e)⟩
    · obtain ⟨e, n, ne, nf, d⟩ := I.pin p hp
      exact ⟨(hs.2 p.1 ne).trans e, n, ne, nf, d⟩
  · have hfn : X.fn x = true := by
      rcases hf with z | z
      · exact z
      · rw [z] at hk; cases hk
    obtain ⟨c, hc⟩ := I.ok.has x (.inl hk)
    obtain ⟨w', z⟩ := I.cell x c hc
    refine wpAny_storeName_cell I.ok.kind hk hc z (fun h' hc' hs => ?_)
    obtain ⟨oc, hoc, hocd⟩ := id z
    refine h { s with heap := h' } ⟨I.ok, I.os, I.bare, ⟨fun b o e n hb hx => ?_, fun b o e n hb hx => ?_, I.base.free, fun b o e hx => ?_, I.base.tups, I.base.frzs, I.base.tbls⟩, ⟨m, hn.sameBut hs (Ne.symm (cne x c hc)), fun j y v' e1 e2 e3 => ?_⟩, fun y c' e => ?_, I.free, I.freeC, fun p hp => ?_, tracked ⟨oc, hoc, I.freeC x c hc⟩ hs, by simpa using I.len⟩ ⟨c, hs, .inr hc⟩
    · exact (hs.2 b (Nat.ne_of_lt (Nat.lt_of_lt_of_le (Heap.lt_size e) (I.ok.cab x c hfn hc)))).trans (I.base.keep b o e n hb hx)
    · obtain ⟨sl, e1⟩ := I.base.slot b o e n hb hx
      exact ⟨sl, (hs.2 b (Nat.ne_of_lt (Nat.lt_of_lt_of_le (Heap.lt_size e) (I.ok.cab x c hfn hc)))).trans e1⟩
    · obtain ⟨o', e1⟩ := I.base.there b o e hx
      exact ⟨o', (hs.2 b (Nat.ne_of_lt (Nat.lt_of_lt_of_le (Heap.lt_size e) (I.ok.cab x c hfn hc)))).trans e1⟩
    · by_cases hj : j = i
      · subst hj
        rw [hi] at e1; cases e1
        rw [List.getElem?_set_self hiσ] at e2
        cases e2
        exact ⟨u, r, .inr ⟨.inl hk, c, hc, hc'⟩⟩
      · rw [List.getElem?_set_ne (Ne.symm hj)] at e2
        obtain ⟨u', r', q⟩ := hl j y v' e1 e2 e3
        refine ⟨u', r', ?_⟩
        rcases q with q | ⟨k, c', e, z'⟩
        · exact .inl q
        · refine .inr ⟨k, c', e, z'.sameBut hs ?_⟩
          rintro rfl
          exact hj (nodup_ix hN e1 (I.ok.inj _ _ _ e hc ▸ hi))
    · by_cases hcc : c' = c
      · subst hcc; exact ⟨_, hc'⟩
      · obtain ⟨w2, z2⟩ := I.cell y c' e
        exact ⟨w2, z2.sameBut hs hcc⟩
    · obtain ⟨e, n, ne, nf, d⟩ := I.pin p hp
      refine ⟨(hs.2 p.1 ?_).trans e, n, ne, nf, d⟩
      intro q
      rw [q, hoc] at e
      have q' : oc = p.2 := Option.some.inj e
      exact d w' (by rw [<- q']; exact hocd)
theorem store_ok {M : Model} {A : Around} {E : Value -> Shared -> Prop} {i : Nat} {x : Str} {v : V} {u : Value} {Q : Unit -> Shared -> Prop} (I : Inv X pins σ H s) (hN : X.N.Nodup) (hi : X.N[i]? = some x) (hx : Loc X.env.scope x) (r : RelV v u)
    (h : ∀ s', Inv X pins (σ.set i (some v)) H s' -> Q () s') (hf : X.fn x = true \/ X.env.scope.names.lookup x = some .local := by first | exact .inl rfl | exact .inr rfl | assumption) : wpAny M A (storeName X.env x u) Q E s :=
  store_ok2 I hN hi hx r (fun s' I' _ => h s' I') hf
theorem Inv.call' {s' : Shared} {ch : List Addr} (I : Inv X pins σ H s) (ho : s'.os = s.os) (u : Un (frs X.stack) ch H H' s.heap s'.heap) (hok : HOk X.prog X.w H' s'.heap) (hg : AllBare s'.gens)
    (hch : ∀ b ∈ ch, (b ∈ X.ex \/ X.s₀.heap.objs.size <= b) /\ b ≠ X.env.locals /\ (∀ x c, X.env.cells.lookup x = some c -> c ≠ b) /\ ∀ p ∈ X.pn ++ pins, p.1 ≠ b) : Inv X pins σ H' s' := by
  obtain ⟨h', g', d', t', o'⟩ := s'
  have e : o' = s.os := ho
  subst e
  exact I.call (g' := g') (t' := t') (d' := d') u hok hg hch
end
noncomputable abbrev XK := Value -> Option Addr -> Hp -> Prop
noncomputable abbrev St := List (Option V)
noncomputable abbrev VK := V -> Hp -> Prop
noncomputable abbrev TE := St -> Hp -> VK -> Prop
noncomputable abbrev TT := St -> Hp -> (Bool -> Hp -> Prop) -> Prop
noncomputable abbrev TA := St -> Hp -> (List V -> Hp -> Prop) -> Prop
structure Ends where
  nx : St -> Hp -> Prop
  rt : VK
  bk : St -> Hp -> Prop := fun _ _ => False
  ct : St -> Hp -> Prop := fun _ _ => False
noncomputable abbrev TS := Ends -> St -> Hp -> Prop
noncomputable def EP (X : Cx) (pins : List (Addr × Obj)) (σ : St) (Q : VK) (u : Value) (s' : Shared) : Prop := ∃ v H', Inv X pins σ H' s' /\ RelV v u /\ Q v H'
noncomputable def TP (X : Cx) (pins : List (Addr × Obj)) (σ : St) (Q : Bool -> Hp -> Prop) (b : Bool) (s' : Shared) : Prop := ∃ H', Inv X pins σ H' s' /\ Q b H'
noncomputable def AP (X : Cx) (pins : List (Addr × Obj)) (σ : St) (Q : List V -> Hp -> Prop) (us : List Value) (s' : Shared) : Prop := ∃ vs H', Inv X pins σ H' s' /\ Vals vs us /\ Q vs H'
noncomputable def SP (X : Cx) (pins : List (Addr × Obj)) (D : Ends) (f : Flow) (s' : Shared) : Prop :=
  match f with
  | .next => ∃ σ' H', Inv X pins σ' H' s' /\ D.nx σ' H'
  | .brk => ∃ σ' H', Inv X pins σ' H' s' /\ D.bk σ' H'
  | .cont => ∃ σ' H', Inv X pins σ' H' s' /\ D.ct σ' H'
  | .ret u => ∃ v σ' H', Inv X pins σ' H' s' /\ RelV v u /\ D.rt v H'
noncomputable def PE (X : Cx) (e : Expr) (t : TE) : Prop :=
  ∀ (pins : List (Addr × Obj)) (s : Shared) (σ : St) (H : Hp) (Q : VK), Inv X pins σ H s -> t σ H Q -> wpAny (model X.prog X.w) X.A (eval e X.env) (EP X pins σ Q) X.xe s
noncomputable def PT (X : Cx) (e : Expr) (t : TT) : Prop :=
  ∀ (pins : List (Addr × Obj)) (s : Shared) (σ : St) (H : Hp) (Q : Bool -> Hp -> Prop), Inv X pins σ H s -> t σ H Q -> wpAny (model X.prog X.w) X.A (isTrue e X.env (eval e X.env)) (TP X pins σ Q) X.xe s
noncomputable def PW (X : Cx) (e : Expr) (t : TT) : Prop :=
  ∀ (whole : Sem Value) (pins : List (Addr × Obj)) (s : Shared) (σ : St) (H : Hp) (Q : Bool -> Hp -> Prop), Inv X pins σ H s -> t σ H Q -> wpAny (model X.prog X.w) X.A (isTrue e X.env whole) (TP X pins σ Q) X.xe s
theorem PW.pt {X : Cx} {e : Expr} {t : TT} (h : PW X e t) : PT X e t := h _
noncomputable def PA (X : Cx) (es : List Expr) (t : TA) : Prop :=
  ∀ (pos : Pos) (pins : List (Addr × Obj)) (s : Shared) (σ : St) (H : Hp) (Q : List V -> Hp -> Prop), Inv X pins σ H s -> t σ H Q -> wpAny (model X.prog X.w) X.A (spliced (backTo pos (starEach es X.env))) (AP X pins σ Q) X.xe s
noncomputable def PS (X : Cx) (st : Stmt) (t : TS) : Prop :=
  ∀ (pins : List (Addr × Obj)) (s : Shared) (σ : St) (H : Hp) (D : Ends), Inv X pins σ H s -> t D σ H -> wpAny (model X.prog X.w) X.A (exec st X.env) (SP X pins D) X.xe s
noncomputable def PSs (X : Cx) (st : List Stmt) (t : TS) : Prop :=
  ∀ (pins : List (Addr × Obj)) (s : Shared) (σ : St) (H : Hp) (D : Ends), Inv X pins σ H s -> t D σ H -> wpAny (model X.prog X.w) X.A (execs st X.env) (SP X pins D) X.xe s
theorem thn {α : Type} {t : Sem α} {Q Q' : α -> Shared -> Prop} {M : Model} {A : Around} {E : Value -> Shared -> Prop} {s : Shared} (h : wpAny M A t Q E s) (hQ : ∀ a s, Q a s -> Q' a s) : wpAny M A t Q' E s := wpAny_mono h hQ fun _ _ x => x
end L2
namespace L2
open PySem PySem.Spec PyProof.Rows
section
variable {X : Cx}
noncomputable def tVar (i : Nat) : TE := fun σ H Q => ∃ v, σ[i]? = some (some v) /\ Q v H
noncomputable def tC (v : V) : TE := fun _ H Q => Q v H
theorem pe_var {i : Nat} {x : Str} {pos : Pos} (hN : X.N[i]? = some x) (hv : Vis X.env.scope x) (hd : (x == ("__debug__" : Str)) = false := by decide) (hcd : (x == ("__classdict__" : Str)) = false := by decide) : PE X (.Name x pos) (tVar i) := by
  intro pins s σ H Q I h
  obtain ⟨v, e, h⟩ := h
  obtain ⟨m, hn, hl⟩ := I.loc
  obtain ⟨u, r, l⟩ := hl i x v hN e hv
  have fin : EP X pins σ Q u s := ⟨v, H, I, r, h⟩
  rcases l with ⟨hk, hm⟩ | ⟨hk, c, hc, hcell⟩
  · exact wpAny_Name (wpAny_loadName_local I.ok.kind hk hn hm fin) hd
  · rcases hk with hk | hk
    · exact wpAny_Name (wpAny_loadName_cell I.ok.kind hk hc hcell fin) hd
    · exact wpAny_Name (wpAny_loadName_free I.ok.kind hk hc hcell fin hcd) hd
theorem pe_int {i j pos} : PE X (.Constant (.int i) j pos) (tC (.int i)) := fun _ _ _ H _ I h => wpAny_Constant_int ⟨.int i, H, I.tok _, ⟨_, rfl⟩, h⟩
theorem pe_bl {b j pos} : PE X (.Constant (.bool b) j pos) (tC (.bl b)) := fun _ _ _ H _ I h => Constant_bool ⟨.bl b, H, I, rfl, h⟩
theorem pe_non {j pos} : PE X (.Constant .none j pos) (tC .non) := fun _ _ _ H _ I h => Constant_none ⟨.non, H, I, rfl, h⟩
theorem pe_str {x j pos} : PE X (.Constant (.str x) j pos) (tC (.str x)) := fun _ _ _ H _ I h => Calls.Constant_str ⟨.str x, H, I.tok _, ⟨_, rfl⟩, h⟩
noncomputable def Gl (X : Cx) (x : Str) : Prop := X.env.kindOf x = some .globalImplicit
theorem ld_glob {E : Value -> Shared -> Prop} {pins : List (Addr × Obj)} {s : Shared} {σ : St} {H : Hp} {x : Str} {u : Value} {pos : Pos} {Q : Value -> Shared -> Prop} (I : Inv X pins σ H s) (hg : Gl X x) (hm : X.mg x = some u) (h : Q u s)
    (hd : (x == ("__debug__" : Str)) = false := by decide) : wpAny (model X.prog X.w) X.A (eval (.Name x pos) X.env) Q E s :=
  Calls.Name_function_global I.ok.kind hg (Calls.loadGlobal_global (by rw [I.ok.glob]; exact I.mod.glob.keeps I.bk) hm h) hd
theorem ld_blt {E : Value -> Shared -> Prop} {pins : List (Addr × Obj)} {s : Shared} {σ : St} {H : Hp} {x : Str} {u : Value} {pos : Pos} {Q : Value -> Shared -> Prop} (I : Inv X pins σ H s) (hg : Gl X x) (hm : X.mg x = none) (hv : bootBuiltins x = some u) (h : Q u s)
    (hn : x ≠ "__name__" := by decide) (hd : (x == ("__debug__" : Str)) = false := by decide) : wpAny (model X.prog X.w) X.A (eval (.Name x pos) X.env) Q E s := by
  obtain ⟨mb, h1, h2⟩ := I.mod.blt
  exact Calls.Name_function_global I.ok.kind hg (Calls.loadGlobal_builtin (by rw [I.ok.glob]; exact I.mod.glob.keeps I.bk) hm (by rw [I.ok.blt]; exact h1.keeps I.bk) ((h2 x hn).trans hv) h) hd
theorem pe_glob {x : Str} {v : V} {u : Value} {pos : Pos} (hg : Gl X x) (hm : X.mg x = some u) (r : RelV v u) (hd : (x == ("__debug__" : Str)) = false := by decide) : PE X (.Name x pos) (tC v) :=
  fun _ _ _ H _ I h => ld_glob I hg hm ⟨v, H, I, r, h⟩ hd
theorem pe_bltn {x : Str} {v : V} {u : Value} {pos : Pos} (hg : Gl X x) (hm : X.mg x = none) (hv : bootBuiltins x = some u) (r : RelV v u) (hn : x ≠ "__name__" := by decide) (hd : (x == ("__debug__" : Str)) = false := by decide) : PE X (.Name x pos) (tC v) :=
  fun _ _ _ H _ I h => ld_blt I hg hm hv ⟨v, H, I, r, h⟩ hn hd
variable {a b : Expr} {ta tb : TE} {pos : Pos}
noncomputable def PC (X : Cx) (op : CmpOp) (a b : Expr) (t : TE) : Prop :=
  ∀ (pins : List (Addr × Obj)) (s : Shared) (σ : St) (H : Hp) (Q : VK), Inv X pins σ H s -> t σ H Q ->
    wpAny (model X.prog X.w) X.A (eval a X.env) (fun v s₁ => wpAny (model X.prog X.w) X.A (eval b X.env) (fun u s₂ => wpAny (model X.prog X.w) X.A (compareOp op v u) (EP X pins σ Q) X.xe s₂) X.xe s₁) X.xe s
noncomputable def tB (t : TE) : TT := fun σ H Q => t σ H fun x H1 => ∃ c, x = .bl c /\ Q c H1
theorem pe_cmp {op : CmpOp} {t : TE} (h : PC X op a b t) (h1 : behindInMarks op b = false := by first | exact nobehind _ (by decide) (by decide) | rfl) : PE X (.Compare a [op] [b] pos) t := fun pins s σ H Q I hw => wpAny_Compare1 (h pins s σ H Q I hw) h1
theorem pt_cmp {op : CmpOp} {t : TE} (h : PC X op a b t) (h1 : behindInMarks op b = false := by first | exact nobehind _ (by decide) (by decide) | rfl) : PT X (.Compare a [op] [b] pos) (tB t) := by
  intro pins s σ H Q I hw
  refine wpAny_isTrue_Compare1 (thn (h pins s σ H _ I hw) fun v s1 h1 => thn h1 fun u s2 h2 => thn h2 fun c s3 ⟨x, H1, I1, r1, q1⟩ => ?_) h1
  obtain ⟨d, rfl, q⟩ := q1
  cases r1
  exact wpAny_truthy_bool ⟨H1, I1, q⟩
theorem pt_val {e : Expr} {t : TE} (h : PE X e t) (he : ∀ whole, isTrue e X.env whole = (do let v <- whole; standAt e.pos; holding [v] (truthy v)) := by intro _; rfl) : PT X e (tB t) := by
  intro pins s σ H Q I hw
  refine isTrue_plain (thn (h pins s σ H _ I hw) fun v s1 ⟨x, H1, I1, r1, q1⟩ => ?_) (he _)
  obtain ⟨d, rfl, q⟩ := q1
  cases r1
  exact wpAny_truthy_bool ⟨H1, I1, q⟩
variable {tA tB' : TT} {rest : List Expr}
noncomputable def tAnd (t u : TT) : TT := fun σ H Q => t σ H fun c H1 => if c = true then u σ H1 Q else Q false H1
noncomputable def tOr (t u : TT) : TT := fun σ H Q => t σ H fun c H1 => if c = true then Q true H1 else u σ H1 Q
noncomputable def tNot (t : TT) : TT := fun σ H Q => t σ H fun c H1 => Q (!c) H1
theorem pw_and1 (ha : PT X a tA) : PW X (.BoolOp .And [a] pos) tA := by
  intro wh pins s σ H Q I h
  refine isTrue_and (thn (ha pins s σ H Q I h) fun c s1 e => ?_)
  cases c with
  | true => exact isTrue_and_nil e
  | false => exact e
theorem pw_or1 (ha : PT X a tA) : PW X (.BoolOp .Or [a] pos) tA := by
  intro wh pins s σ H Q I h
  refine isTrue_or (thn (ha pins s σ H Q I h) fun c s1 e => ?_)
  cases c with
  | false => exact isTrue_or_nil e
  | true => exact e
theorem pw_and (ha : PT X a tA) (hb : PW X (.BoolOp .And (b :: rest) pos) tB') : PW X (.BoolOp .And (a :: b :: rest) pos) (tAnd tA tB') := by
  intro wh pins s σ H Q I h
  refine isTrue_and (thn (ha pins s σ H _ I h) fun c s1 ⟨H1, I1, q1⟩ => ?_)
  cases c with
  | true => exact hb wh pins s1 σ H1 Q I1 q1
  | false => exact ⟨H1, I1, q1⟩
theorem pw_or (ha : PT X a tA) (hb : PW X (.BoolOp .Or (b :: rest) pos) tB') : PW X (.BoolOp .Or (a :: b :: rest) pos) (tOr tA tB') := by
  intro wh pins s σ H Q I h
  refine isTrue_or (thn (ha pins s σ H _ I h) fun c s1 ⟨H1, I1, q1⟩ => ?_)
  cases c with
  | true => exact ⟨H1, I1, q1⟩
  | false => exact hb wh pins s1 σ H1 Q I1 q1
theorem pt_not (ha : PT X a tA) : PT X (.UnaryOp .Not a pos) (tNot tA) := by
  intro pins s σ H Q I h
  exact isTrue_not (ha pins s σ H (fun c H1 => Q (!c) H1) I h)
noncomputable def tAndV (ta tb : TE) : TE := fun σ H Q => ta σ H fun x H1 => ∃ c, x = .bl c /\ if c = true then tb σ H1 Q else Q (.bl false) H1
theorem pe_one {op} {t : TE} (h : PE X a t) : PE X (.BoolOp op [a] pos) t := fun pins s σ H Q I hw => BoolOp_one (h pins s σ H Q I hw)
theorem pe_and (ha : PE X a ta) (hb : PE X (.BoolOp .And (b :: rest) pos) tb) : PE X (.BoolOp .And (a :: b :: rest) pos) (tAndV ta tb) := by
  intro pins s σ H Q I h
  refine BoolOp_and (thn (ha pins s σ H _ I h) fun v s1 ⟨x, H1, I1, r1, q1⟩ => ?_)
  obtain ⟨c, rfl, q1⟩ := q1
  cases r1
  refine wpAny_truthy_bool ?_
  cases c with
  | true => exact hb pins s1 σ H1 Q I1 q1
  | false => exact ⟨.bl false, H1, I1, rfl, q1⟩
noncomputable def tIf (t : TT) (ta tb : TE) : TE := fun σ H Q => t σ H fun c H1 => if c = true then ta σ H1 Q else tb σ H1 Q
theorem pe_ifExp {c : Expr} (hc : PT X c tA) (ha : PE X a ta) (hb : PE X b tb) : PE X (.IfExp c a b pos) (tIf tA ta tb) := by
  intro pins s σ H Q I h
  refine wpAny_IfExp (thn (hc pins s σ H _ I h) fun d s1 ⟨H1, I1, q1⟩ => ?_)
  cases d with
  | true => exact ha pins s1 σ H1 Q I1 q1
  | false => exact hb pins s1 σ H1 Q I1 q1
end
end L2
namespace L2
open PySem PySem.Spec PyProof.Rows
noncomputable def SqL (K : PySem.W.Frag) (H : Hp) (a : Addr) (xs : List V) : Prop :=
  Rd H a (.lst xs) \/
    ∃ (o : Obj) (its : Array Value) (n : Nat), K.lookup a = some o /\ o.cls = .type "list" /\ o.dict = none /\ o.data = .seq its n /\ its.size <= sizeLine /\ Vals xs its.toList
noncomputable def SqT (K : PySem.W.Frag) (H : Hp) (a : Addr) (xs : List V) : Prop :=
  Rd H a (.tup xs) \/
    ∃ (o : Obj) (its : Array Value) (n : Nat), K.lookup a = some o /\ o.cls = .type "tuple" /\ o.data = .seq its n /\ its.size <= sizeLine /\ Vals xs its.toList
noncomputable def absV : Value -> Option V
  | .none => some .non
  | .bool b => some (.bl b)
  | .int i _ => some (.int i)
  | .str x _ => some (.str x)
  | .bytes b _ => some (.byt b)
  | .float b _ => some (.flt b)
  | .ref a => some (.ref a)
  | .type n => some (.ty n)
  | _ => none
theorem RelV.abs {x : V} {u : Value} (r : RelV x u) : absV u = some x := by
  cases x with
  | non => cases r; rfl
  | bl _ => cases r; rfl
  | int _ => obtain ⟨t, rfl⟩ := r; rfl
  | str _ => obtain ⟨t, rfl⟩ := r; rfl
  | byt _ => obtain ⟨t, rfl⟩ := r; rfl
  | flt _ => obtain ⟨t, rfl⟩ := r; rfl
  | ref _ => cases r; rfl
  | ty _ => cases r; rfl
theorem RelV.inj {x y : V} {u : Value} (r : RelV x u) (q : RelV y u) : x = y := Option.some.inj (r.abs.symm.trans q.abs)
theorem Vals.inj : ∀ {xs ys : List V} {us : List Value}, Vals xs us -> Vals ys us -> xs = ys
  | _, _, _, .nil, .nil => rfl
  | _, _, _, .cons r t, .cons r' t' => by rw [r.inj r', Vals.inj t t']
section
variable {X : Cx} {pins : List (Addr × Obj)} {σ : St} {H : Hp} {s : Shared} {a : Addr} {xs ys : List V}
theorem SqL.of {K : PySem.W.Frag} (h : H a = some (.lst xs)) : SqL K H a xs := .inl (.inl h)
theorem SqT.of {K : PySem.W.Frag} (h : H a = some (.tup xs)) : SqT K H a xs := .inl (.inl h)
theorem Inv.list (I : Inv X pins σ H s) (h : SqL X.K H a xs) : ∃ its : List Value, Vals xs its /\ PlainL s.heap a its.toArray /\ xs.length <= sizeLine := by
  rcases h with h | ⟨o, its, n, hk, hc, hd, hs, hz, r⟩
  · obtain ⟨z, its, n, r, e⟩ := h.ok I.hok
    exact ⟨its, r, ⟨_, n, e, rfl, rfl, rfl⟩, z⟩
  · refine ⟨its.toList, r, ⟨o, n, I.kIn a o hk, hc, hd, by simpa using hs⟩, ?_⟩
    have e := r.length
    simp only [Array.length_toList] at e
    omega
theorem Inv.tuple (I : Inv X pins σ H s) (h : SqT X.K H a xs) : ∃ its : List Value, Vals xs its /\ IsTup s.heap a its.toArray /\ xs.length <= sizeLine := by
  rcases h with h | ⟨o, its, n, hk, hc, hs, hz, r⟩
  · obtain ⟨z, its, r, p⟩ := h.ok I.hok
    exact ⟨its, r, p, z⟩
  · refine ⟨its.toList, r, ⟨o, I.kIn a o hk, hc, n, by simpa using hs⟩, ?_⟩
    have e := r.length
    simp only [Array.length_toList] at e
    omega
theorem Inv.list_inj (I : Inv X pins σ H s) (h : SqL X.K H a xs) (h' : SqL X.K H a ys) : xs = ys := by
  obtain ⟨its, r, ⟨o, n, e, _, _, d⟩, _⟩ := I.list h
  obtain ⟨its', r', ⟨o', n', e', _, _, d'⟩, _⟩ := I.list h'
  rw [e] at e'; cases e'
  rw [d] at d'
  injection d' with d1 _
  have : its = its' := by simpa using congrArg Array.toList d1
  subst this
  exact r.inj r'
theorem Inv.tuple_inj (I : Inv X pins σ H s) (h : SqT X.K H a xs) (h' : SqT X.K H a ys) : xs = ys := by
  obtain ⟨its, r, ⟨o, e, _, n, d⟩, _⟩ := I.tuple h
  obtain ⟨its', r', ⟨o', e', _, n', d'⟩, _⟩ := I.tuple h'
  rw [e] at e'; cases e'
  rw [d] at d'
  injection d' with d1 _
  have : its = its' := by simpa using congrArg Array.toList d1
  subst this
  exact r.inj r'
end
noncomputable abbrev Cx.wish (X : Cx) (E : Value -> Shared -> Prop) : Cx := { X with xe := E }
noncomputable abbrev Cx.nox (X : Cx) : Cx := X.wish fun _ _ => False
theorem Cx.Ok.wish {X : Cx} (ok : X.Ok) (E : Value -> Shared -> Prop) : (X.wish E).Ok :=
  ⟨ok.mod, ok.kind, ok.glob, ok.blt, ok.above, ok.inj, ok.has, ok.cab, ok.hd, ok.frames, ok.stk, ok.exf, ok.bs, ok.bsz, ok.noex, ok.exfs, ok.funs, ok.frf⟩
theorem Cx.Ok.unwish {X : Cx} {E : Value -> Shared -> Prop} (ok : (X.wish E).Ok) : X.Ok :=
  ⟨ok.mod, ok.kind, ok.glob, ok.blt, ok.above, ok.inj, ok.has, ok.cab, ok.hd, ok.frames, ok.stk, ok.exf, ok.bs, ok.bsz, ok.noex, ok.exfs, ok.funs, ok.frf⟩
section
variable {X : Cx} {pins : List (Addr × Obj)} {σ : St} {H : Hp} {s : Shared} {E : Value -> Shared -> Prop}
theorem Inv.wish (I : Inv X pins σ H s) (E : Value -> Shared -> Prop) : Inv (X.wish E) pins σ H s := ⟨I.ok.wish E, I.os, I.bare, I.base, I.loc, I.cell, I.free, I.freeC, I.pin, I.hok, I.len⟩
theorem Inv.unwish (I : Inv (X.wish E) pins σ H s) : Inv X pins σ H s := ⟨I.ok.unwish, I.os, I.bare, I.base, I.loc, I.cell, I.free, I.freeC, I.pin, I.hok, I.len⟩
theorem SP.unwish {D : Ends} {f : Flow} {s' : Shared} (h : SP (X.wish E) pins D f s') : SP X pins D f s' := by
  cases f with
  | next => obtain ⟨σ', H', I, q⟩ := h; exact ⟨σ', H', I.unwish, q⟩
  | brk => obtain ⟨σ', H', I, q⟩ := h; exact ⟨σ', H', I.unwish, q⟩
  | cont => obtain ⟨σ', H', I, q⟩ := h; exact ⟨σ', H', I.unwish, q⟩
  | ret u => obtain ⟨v, σ', H', I, r, q⟩ := h; exact ⟨v, σ', H', I.unwish, r, q⟩
theorem PSs.nox {st : List Stmt} {t : TS} (h : PSs X.nox st t) : PSs X st t := fun pins s σ H D I hw =>
  wpAny_mono (h pins s σ H D (I.wish _) hw) (fun _ _ q => q.unwish) fun _ _ z => False.elim z
end
section
variable {X : Cx} {st : Stmt} {rest : List Stmt} {t u : TS} {e : Expr} {te : TE} {pos : Pos}
noncomputable def tNext : TS := fun D σ H => D.nx σ H
noncomputable def tSeq (t u : TS) : TS := fun D σ H => t { D with nx := u D } σ H
theorem pss_nil : PSs X [] tNext := fun _ _ σ H _ I h => wpAny_execs_nil ⟨σ, H, I, h⟩
theorem pss_cons (h1 : PS X st t) (h2 : PSs X rest u) : PSs X (st :: rest) (tSeq t u) := by
  intro pins s σ H D I h
  refine wpAny_execs_cons (thn (h1 pins s σ H { D with nx := u D } I h) fun f s1 q => ?_)
  cases f with
  | next =>
    obtain ⟨σ', H', I', q⟩ := q
    exact h2 pins s1 σ' H' D I' q
  | ret v => exact q
  | brk => exact q
  | cont => exact q
theorem pss_one (h1 : PS X st t) : PSs X [st] t := by
  intro pins s σ H D I h
  refine wpAny_execs_cons (thn (h1 pins s σ H D I h) fun f s1 q => ?_)
  cases f with
  | next => exact wpAny_execs_nil q
  | ret v => exact q
  | brk => exact q
  | cont => exact q
theorem Inv.quiet {pins : List (Addr × Obj)} {σ : St} {H : Hp} {s : Shared} (I : Inv X pins σ H s) : interactive X.env = false := by simp [interactive, I.ok.kind]
noncomputable def tDrop (te : TE) : TS := fun D σ H => te σ H fun _ H1 => D.nx σ H1
theorem ps_expr (he : PE X e te) (hs : swapsWith e none pos.line X.env = pure false := by rfl) : PS X (.Expr e pos) (tDrop te) := by
  intro pins s σ H D I h
  exact wpAny_Expr_any (thn (he pins s σ H _ I h) fun v s1 ⟨x, H1, I1, r1, q1⟩ => ⟨σ, H1, I1, q1⟩) I.quiet hs
noncomputable def tRet (te : TE) : TS := fun D σ H => te σ H D.rt
theorem ps_ret (he : PE X e te) : PS X (.Return (some e) pos) (tRet te) := by
  intro pins s σ H D I h
  exact wpAny_Return_some (thn (he pins s σ H _ I h) fun v s1 ⟨x, H1, I1, r1, q1⟩ => ⟨x, σ, H1, I1, r1, q1⟩)
noncomputable def tIfS (c : TT) (t u : TS) : TS := fun D σ H => c σ H fun b H1 => if b = true then t D σ H1 else u D σ H1
theorem ps_if {c : Expr} {a b : List Stmt} {tc : TT} (hc : PT X c tc) (ha : PSs X a t) (hb : PSs X b u) : PS X (.If c a b pos) (tIfS tc t u) := by
  intro pins s σ H D I h
  refine wpAny_If (thn (hc pins s σ H _ I h) fun d s1 ⟨H1, I1, q1⟩ => ?_)
  cases d with
  | true => exact ha pins s1 σ H1 D I1 q1
  | false => exact hb pins s1 σ H1 D I1 q1
noncomputable def tNever : TS := fun _ _ _ => False
theorem ps_never : PS X st tNever := fun _ _ _ _ _ _ h => h.elim
end
noncomputable abbrev TG := V -> St -> Hp -> (St -> Hp -> Prop) -> Prop
noncomputable abbrev TGs := List V -> St -> Hp -> (St -> Hp -> Prop) -> Prop
noncomputable def PG (X : Cx) (target : Expr) (t : TG) : Prop :=
  ∀ (pins : List (Addr × Obj)) (s : Shared) (σ : St) (H : Hp) (v : V) (u : Value) (Q : St -> Hp -> Prop), Inv X pins σ H s -> RelV v u -> t v σ H Q ->
    wpAny (model X.prog X.w) X.A (assign target X.env u) (fun _ s' => ∃ σ' H', Inv X pins σ' H' s' /\ Q σ' H') X.xe s
noncomputable def PGs (X : Cx) (ts : List Expr) (t : TGs) : Prop :=
  ∀ (pins : List (Addr × Obj)) (s : Shared) (σ : St) (H : Hp) (vs : List V) (us : List Value) (Q : St -> Hp -> Prop), Inv X pins σ H s -> Vals vs us -> t vs σ H Q ->
    wpAny (model X.prog X.w) X.A (assignInOrder ((assignEach ts X.env).map (·.2)) us) (fun _ s' => ∃ σ' H', Inv X pins σ' H' s' /\ Q σ' H') X.xe s
noncomputable abbrev TSet := V -> V -> V -> Hp -> (Hp -> Prop) -> Prop
noncomputable def PSet (X : Cx) (t : TSet) : Prop :=
  ∀ (pins : List (Addr × Obj)) (s : Shared) (σ : St) (H : Hp) (o i v : V) (ov iv u : Value) (Q : Hp -> Prop), Inv X pins σ H s -> RelV o ov -> RelV i iv -> RelV v u -> t o i v H Q ->
    wpAny (model X.prog X.w) X.A (setItem ov iv u) (fun _ s' => ∃ H', Inv X pins σ H' s' /\ Q H') X.xe s
noncomputable abbrev TIp := V -> V -> Hp -> VK -> Prop
noncomputable def PIp (X : Cx) (op : Operator) (t : TIp) : Prop :=
  ∀ (pins : List (Addr × Obj)) (s : Shared) (σ : St) (H : Hp) (x y : V) (v u : Value) (Q : VK), Inv X pins σ H s -> RelV x v -> RelV y u -> t x y H Q ->
    wpAny (model X.prog X.w) X.A (inplaceOp op v u) (EP X pins σ Q) X.xe s
section
variable {X : Cx} {pos : Pos}
noncomputable def gName (i : Nat) : TG := fun v σ H Q => Q (σ.set i (some v)) H
theorem pg_name {i : Nat} {x : Str} (hN : X.N.Nodup) (hi : X.N[i]? = some x) (hx : Loc X.env.scope x) (hf : X.fn x = true \/ X.env.scope.names.lookup x = some .local := by first | exact .inl rfl | exact .inr rfl | assumption) : PG X (.Name x pos) (gName i) := by
  intro pins s σ H v u Q I r h
  exact wpAny_assign_Name (store_ok I hN hi hx r (fun s' I' => ⟨_, H, I', h⟩) hf)
noncomputable def gNil : TGs := fun vs σ H Q => vs = [] /\ Q σ H
noncomputable def gCons (t : TG) (u : TGs) : TGs := fun vs σ H Q => ∃ v r, vs = v :: r /\ t v σ H fun σ' H' => u r σ' H' Q
theorem pgs_nil : PGs X [] gNil := by
  intro pins s σ H vs us Q I r h
  obtain ⟨e, h⟩ := h
  subst e
  cases r
  exact assignInOrder_nil ⟨σ, H, I, h⟩
theorem pgs_cons {e : Expr} {es : List Expr} {t : TG} {u : TGs} (h1 : PG X e t) (h2 : PGs X es u)
    (hs : (assignEach (e :: es) X.env).map (·.2) = assign e X.env :: (assignEach es X.env).map (·.2) := by rfl) : PGs X (e :: es) (gCons t u) := by
  intro pins s σ H vs us Q I r h
  obtain ⟨v, vr, e1, h⟩ := h
  subst e1
  cases r with
  | cons r rr =>
    rw [hs]
    refine assignInOrder_cons (thn (h1 pins s σ H _ _ _ I r h) fun _ s1 ⟨σ1, H1, I1, q1⟩ => ?_)
    exact h2 pins s1 σ1 H1 _ _ Q I1 rr q1
noncomputable def gTup (K : PySem.W.Frag) (n : Nat) (t : TGs) : TG := fun v σ H Q => ∃ a xs, v = .ref a /\ SqT K H a xs /\ xs.length = n /\ t xs σ H Q
theorem pg_tup {es : List Expr} {k : Nat} {t : TGs} {n : Nat} (hc : X.calm = true) (h : PGs X es t)
    (hn : (assignEach es X.env).length = n := by rfl) (hst : (assignEach es X.env).findIdx? (·.1) = none := by rfl) : PG X (.Tuple es k pos) (gTup X.K n t) := by
  intro pins s σ H v u Q I r hw
  obtain ⟨a, xs, e1, hq, hl, hw⟩ := hw
  subst e1
  cases r
  obtain ⟨its, rv, ht, hz⟩ := I.tuple hq
  refine assign_Tuple_tuple (I.ok.hd hc) ht (by simp [hn, <- hl, rv.length]) hst fun h' hx => ?_
  have I1 : Inv X pins σ H { s with heap := h' } := I.kept (t' := s.toks) fun b o e => hx b o (Nat.ne_of_lt (Heap.lt_size e)) e
  exact h pins _ σ H xs _ Q I1 (by simpa using rv) hw
noncomputable def gSub (to ti : TE) (t : TSet) : TG := fun v σ H Q => to σ H fun o H1 => ti σ H1 fun i H2 => t o i v H2 fun H3 => Q σ H3
theorem pg_sub {o i : Expr} {to ti : TE} {t : TSet} (ho : PE X o to) (hi : PE X i ti) (hs : PSet X t)
    (ha : ∀ v, assign (.Subscript o i pos) X.env v = (do
      let ov <- holding [v] (eval o X.env)
      let iv <- holding [v, ov] (eval i X.env)
      standAt pos
      holding [v, ov, iv] (setItem ov iv v)
      release [v, ov, iv] []) := by intro _; rfl) : PG X (.Subscript o i pos) (gSub to ti t) := by
  intro pins s σ H v u Q I r h
  rw [ha]
  refine wpAny_bind (wpAny_holding (thn (ho pins s σ H _ I h) fun ov s1 ⟨x, H1, I1, r1, q1⟩ => ?_))
  refine wpAny_bind (wpAny_holding (thn (hi pins s1 σ H1 _ I1 q1) fun iv s2 ⟨y, H2, I2, r2, q2⟩ => ?_))
  refine wpAny_bind (wpAny_standAt (wpAny_bind (wpAny_holding (thn (hs pins s2 σ H2 x y v ov iv u _ I2 r1 r2 r q2) fun _ s3 ⟨H3, I3, q3⟩ => ?_))))
  exact wpAny_release ⟨σ, H3, I3, q3⟩
noncomputable def tAsg (te : TE) (g : TG) : TS := fun D σ H => te σ H fun x H1 => g x σ H1 D.nx
theorem ps_asg {tg e : Expr} {te : TE} {g : TG} (he : PE X e te) (hg : PG X tg g) (hs : swapsWithSole [tg] e pos.line X.env = pure false := by rfl) (hw : swappedStores [tg] e X.env = pure none := by rfl)
    (h1 : (assignEach [tg] X.env).map (·.2) = [assign tg X.env] := by rfl) : PS X (.Assign [tg] e pos) (tAsg te g) := by
  intro pins s σ H D I h
  refine wpAny_Assign_stores (thn (he pins s σ H _ I h) fun v s1 ⟨x, H1, I1, r1, q1⟩ => ?_) hs hw
  rw [h1]
  exact thn (hg pins s1 σ H1 x v _ I1 r1 q1) fun _ s2 q => q
theorem ps_set {i : Nat} {x : Str} {e : Expr} {te : TE} {pos' : Pos} (hN : X.N.Nodup) (hi : X.N[i]? = some x) (hx : Loc X.env.scope x) (he : PE X e te) (hs : swapsWith e (some (.Name x pos')) pos.line X.env = pure false := by rfl) (hf : X.fn x = true \/ X.env.scope.names.lookup x = some .local := by first | exact .inl rfl | exact .inr rfl | assumption) :
    PS X (.Assign [.Name x pos'] e pos) (tAsg te (gName i)) := by
  intro pins s σ H D I h
  refine wpAny_Assign_Name (thn (he pins s σ H _ I h) fun v s1 ⟨y, H1, I1, r1, q1⟩ => ?_) hs
  exact store_ok I1 hN hi hx r1 (fun s2 I2 => ⟨_, H1, I2, q1⟩) hf
noncomputable def tPar (i j : Nat) (ta : TA) : TS := fun D σ H => ta σ H fun vs H1 => ∃ v w, vs = [v, w] /\ D.nx ((σ.set i (some v)).set j (some w)) H1
theorem ps_par {i j : Nat} {x y : Str} {a b : Expr} {ta : TA} {px py pt : Pos} {kt k2 pt2} (hc : X.calm = true) (hN : X.N.Nodup) (hi : X.N[i]? = some x) (hj : X.N[j]? = some y) (hij : i ≠ j)
    (hx : X.env.scope.names.lookup x = some .local) (hy : X.env.scope.names.lookup y = some .local) (ha : PA X [a, b] ta)
    (hw : swappedStores [.Tuple [.Name x px, .Name y py] kt pt] (.Tuple [a, b] k2 pt2) X.env = pure (some [x, y]))
    (hs : swapsWithSole [.Tuple [.Name x px, .Name y py] kt pt] (.Tuple [a, b] k2 pt2) pos.line X.env = pure false := by rfl) :
    PS X (.Assign [.Tuple [.Name x px, .Name y py] kt pt] (.Tuple [a, b] k2 pt2) pos) (tPar i j ta) := by
  intro pins s σ H D I h
  rw [exec_Assign_arm]
  refine wpAny_bind (wpAny_standAt ?_)
  rw [hs]
  refine wpAny_bind (wpAny_pure ?_)
  rw [if_neg (by decide)]
  refine wpAny_bind (Tuple_ (thn (ha _ pins s σ H _ I h) fun us s1 ⟨vs, H1, I1, r1, q1⟩ => ?_))
  obtain ⟨v, w, e1, q1⟩ := q1
  subst e1
  obtain ⟨u1, u2, rfl, rv, rw'⟩ : ∃ u1 u2, us = [u1, u2] /\ RelV v u1 /\ RelV w u2 := by
    cases r1 with
    | cons p q =>
      cases q with
      | cons p' q' =>
        cases q'
        exact ⟨_, _, rfl, p, p'⟩
  refine wpAny_newObj_type ?_ (by show 2 <= sizeLine; decide)
  have I2 : Inv X pins σ H1 { s1 with heap := s1.heap.push { cls := .type "tuple", data := .seq [u1, u2].toArray } } := I1.kept (t' := s1.toks) fun b o e => Heap.get?_push_of_some _ e
  rw [hw]
  refine wpAny_bind (wpAny_pure ?_)
  show wpAny (model X.prog X.w) X.A (do rule "assign.swapped-stores"; let items <- unpackItems (.ref s1.heap.objs.size) 2 none; assignInOrder [fun v => bindName X.env y v, fun v => bindName X.env x v] items.reverse; pure Flow.next) _ _ _
  refine wpAny_bind (wpAny_rule (wpAny_bind (unpackItems_tuple (items := #[u1, u2]) (I.ok.hd hc) (IsTup.new s1.heap _) fun h' hx' => ?_)))
  have I3 := I2.kept (h' := h') (t' := s1.toks) fun b o e => hx' b o (Nat.ne_of_lt (Heap.lt_size e)) e
  show wpAny _ _ (assignInOrder [fun v => bindName X.env y v, fun v => bindName X.env x v] [u2, u1] >>= fun _ => pure Flow.next) _ _ _
  refine wpAny_bind (assignInOrder_cons (wpAny_bindName (store_ok I3 hN hj (.inl hy) rw' (fun s2 I4 => ?_) (.inr hy))))
  refine assignInOrder_cons (wpAny_bindName (store_ok I4 hN hi (.inl hx) rv (fun s3 I5 => assignInOrder_nil (wpAny_pure ?_)) (.inr hx)))
  rw [List.set_comm _ _ (Ne.symm hij)] at I5
  exact ⟨_, H1, I5, q1⟩
noncomputable def tAug (i : Nat) (te : TE) (ti : TIp) : TS := fun D σ H => ∃ x, σ[i]? = some (some x) /\ te σ H fun y H1 => ti x y H1 fun z H2 => D.nx (σ.set i (some z)) H2
theorem ps_aug {i : Nat} {x : Str} {e : Expr} {te : TE} {op : Operator} {ti : TIp} {pos' : Pos} (hN : X.N.Nodup) (hi : X.N[i]? = some x) (hx : Loc X.env.scope x) (he : PE X e te) (ho : PIp X op ti) (hf : X.fn x = true \/ X.env.scope.names.lookup x = some .local := by first | exact .inl rfl | exact .inr rfl | assumption) :
    PS X (.AugAssign (.Name x pos') op e pos) (tAug i te ti) := by
  intro pins s σ H D I h
  obtain ⟨v, e1, h⟩ := h
  obtain ⟨m, hn, hl⟩ := I.loc
  have vis : Vis X.env.scope x := by rcases hx with k | k; exact .inl k; exact .inr (.inl k)
  obtain ⟨u, r, l⟩ := hl i x v hi e1 vis
  refine wpAny_AugAssign_Name ?_
  have go : wpAny (model X.prog X.w) X.A (eval e X.env) (fun w s₂ => wpAny (model X.prog X.w) X.A (inplaceOp op u w) (fun r s₃ => wpAny (model X.prog X.w) X.A (storeName X.env x r) (fun _ => SP X pins D .next) X.xe s₃) X.xe s₂) X.xe s := by
    refine thn (he pins s σ H _ I h) fun w s1 ⟨y, H1, I1, r1, q1⟩ => ?_
    refine thn (ho pins s1 σ H1 v y u w _ I1 r r1 q1) fun z s2 ⟨zv, H2, I2, r2, q2⟩ => ?_
    exact store_ok I2 hN hi hx r2 (fun s3 I3 => ⟨_, H2, I3, q2⟩) hf
  rcases l with ⟨hk, hm⟩ | ⟨hk, c, hc, hcell⟩
  · exact wpAny_loadName_local I.ok.kind hk hn hm go
  · rcases hk with hk | hk
    · exact wpAny_loadName_cell I.ok.kind hk hc hcell go
    · rcases hx with k | k
      · have : X.env.scope.names.lookup x = some .free := hk
        rw [k] at this; cases this
      · have : X.env.scope.names.lookup x = some .free := hk
        rw [k] at this; cases this
noncomputable def ipI (f : Int -> Int -> Int) : TIp := fun x y H Q => ∃ i j, x = .int i /\ y = .int j /\ Q (.int (f i j)) H
theorem ip_add : PIp X .Add (ipI fun i j => i + j) := by
  intro pins s σ H x y v u Q I r1 r2 h
  obtain ⟨i, j, e1, e2, q⟩ := h
  subst e1; subst e2
  obtain ⟨t, rfl⟩ := r1
  obtain ⟨t', rfl⟩ := r2
  exact iadd_int ⟨.int _, H, I.tok _, ⟨_, rfl⟩, q⟩
end
section
variable {X : Cx} {pos : Pos}
end
structure It where
  go : Nat -> Hp -> Prop
  yld : Nat -> Hp -> V -> Hp -> Prop
  stop : Nat -> Hp -> Prop
noncomputable def FpOk (X : Cx) (pins : List (Addr × Obj)) (H : Hp) (b : Addr) : Prop :=
  H b = none /\ b ≠ X.env.locals /\ b ∉ X.fs /\ (b ∈ X.ex \/ X.s₀.heap.objs.size <= b) /\ (∀ x c, X.env.cells.lookup x = some c -> c ≠ b) /\ ∀ p ∈ X.pn ++ pins, p.1 ≠ b
theorem Inv.fpOk {X : Cx} {pins : List (Addr × Obj)} {σ : St} {H H' : Hp} {s : Shared} {b : Addr} (I : Inv X pins σ H s) (hb : s.heap.objs.size <= b) (hn : H' b = none) : FpOk X pins H' b := by
  refine ⟨hn, Nat.ne_of_gt (Nat.lt_of_lt_of_le I.lt hb), I.nofs hb, .inr (Nat.le_trans I.sz hb), fun x c e z => ?_, fun p hp z => ?_⟩
  · obtain ⟨v, q⟩ := I.cell x c e
    exact absurd (Nat.lt_of_lt_of_le q.lt (by rw [z]; exact hb)) (Nat.lt_irrefl _)
  · exact absurd (Nat.lt_of_lt_of_le (Heap.lt_size (I.pin p hp).1) (by rw [z]; exact hb)) (Nat.lt_irrefl _)
structure Turn (P : Program) (w : World) (K : PySem.W.Frag) (tg : Expr) (J : It) (fp : List Addr) (it : Addr) (tn : Nat -> Heap -> Prop) : Prop where
  mem : it ∈ fp
  obj : ∀ i h, tn i h -> ∀ b ∈ fp, ∃ o, h.get? b = some o /\ ∀ v, o.data ≠ .cell v
  keep : ∀ i h h', tn i h -> (∀ b ∈ fp, ∀ o, h.get? b = some o -> h'.get? b = some o) -> tn i h'
  item : ∀ (X : Cx), X.prog = P -> X.w = w -> X.K = K -> X.calm = true -> ∀ (i : Nat) (pins : List (Addr × Obj)) (s : Shared) (σ : St) (H : Hp) (E : Value -> Shared -> Prop), Inv X pins σ H s -> (∀ b ∈ fp, FpOk X pins H b) -> tn i s.heap -> J.go i H ->
    wpAny (model P w) X.A (pyNext (.ref it)) (fun r s1 => ∃ u, r = some u /\
      wpAny (model P w) X.A (letOwnedTupleGo tg (.ref it) u) (fun _ s2 => ∃ x H', Inv X pins σ H' s2 /\ RelV x u /\ J.yld i H x H' /\ tn (i + 1) s2.heap /\ ∀ b ∈ fp, H' b = none) E s1) E s
  done : ∀ (X : Cx), X.prog = P -> X.w = w -> X.K = K -> X.calm = true -> ∀ (i : Nat) (pins : List (Addr × Obj)) (s : Shared) (σ : St) (H : Hp) (E : Value -> Shared -> Prop), Inv X pins σ H s -> (∀ b ∈ fp, FpOk X pins H b) -> tn i s.heap -> J.stop i H ->
    wpAny (model P w) X.A (pyNext (.ref it)) (fun r s1 => r = none /\ Inv X pins σ H s1) E s
  self : ∀ (A : Around) (i : Nat) (s : Shared) (Q : Value -> Shared -> Prop) (E : Value -> Shared -> Prop), tn i s.heap -> Q (.ref it) s -> wpAny (model P w) A (pyIter (.ref it)) Q E s
noncomputable abbrev TI := St -> Hp -> (It -> Hp -> Prop) -> Prop
noncomputable def PIE (X : Cx) (pins : List (Addr × Obj)) (σ : St) (tg : Expr) (R : It -> Hp -> Prop) (itv : Value) (s2 : Shared) : Prop :=
  ∃ (it : Addr) (fp : List Addr) (tn : Nat -> Heap -> Prop) (J : It) (H' : Hp), itv = .ref it /\ Inv X pins σ H' s2 /\ Turn X.prog X.w X.K tg J fp it tn /\ tn 0 s2.heap /\ (∀ b ∈ fp, FpOk X pins H' b) /\ R J H'
noncomputable def PI (X : Cx) (tg iter : Expr) (wi : TI) : Prop :=
  ∀ (pins : List (Addr × Obj)) (s : Shared) (σ : St) (H : Hp) (R : It -> Hp -> Prop), Inv X pins σ H s -> wi σ H R ->
    wpAny (model X.prog X.w) X.A (eval iter X.env) (fun v s1 => wpAny (model X.prog X.w) X.A (pyIter v) (PIE X pins σ tg R) X.xe s1) X.xe s
theorem go_of {M : Model} {A : Around} {E : Value -> Shared -> Prop} {s : Shared} {tg : Expr} {it : Addr} {u : Value} {o : Obj} {n : String} {vs : Array Value} {Q : Unit -> Shared -> Prop} (ho : s.heap.get? it = some o) (hc : o.cls = .type n) (hd : o.data = .fields vs)
    (hn : ["enumerate", "zip", "dict_itemiterator", "dict_reverseitemiterator", "odict_iterator", "itertools.zip_longest", "itertools.pairwise"].contains n = false) (hQ : Q () s) : wpAny M A (letOwnedTupleGo tg (.ref it) u) Q E s := by
  unfold letOwnedTupleGo
  cases tg <;> first
    | exact wpAny_pure hQ
    | (cases u <;> first
        | exact wpAny_pure hQ
        | (refine wpAny_bind (wpAny_load ho ?_)
           rw [hc, hd]
           show wpAny M A (if (["enumerate", "zip", "dict_itemiterator", "dict_reverseitemiterator", "odict_iterator", "itertools.zip_longest", "itertools.pairwise"].contains n && vs[0]? == some (rawInt _)) = true then _ else _) Q E s
           rw [if_neg (by intro h; rw [hn, Bool.false_and] at h; cases h)]
           exact wpAny_pure hQ))
noncomputable def Itl (K : PySem.W.Frag) (a : Addr) : It :=
  ⟨fun i H => ∃ xs x, SqL K H a xs /\ xs[i]? = some x, fun i H x H' => H' = H /\ ∀ xs, SqL K H a xs -> xs[i]? = some x, fun i H => ∃ xs, SqL K H a xs /\ xs.length <= i⟩
noncomputable def Itt (K : PySem.W.Frag) (a : Addr) : It :=
  ⟨fun i H => ∃ xs x, SqT K H a xs /\ xs[i]? = some x, fun i H x H' => H' = H /\ ∀ xs, SqT K H a xs -> xs[i]? = some x, fun i H => ∃ xs, SqT K H a xs /\ xs.length <= i⟩
noncomputable def Itr (lo : Int) (n : Nat) : It := ⟨fun i _ => i < n, fun i H x H' => H' = H /\ x = .int (lo + i), fun i _ => n <= i⟩
theorem turn_list {P : Program} {w : World} {K : PySem.W.Frag} {tg : Expr} (a it : Addr) : Turn P w K tg (Itl K a) [it] it (fun i h => h.IsListIter it a i) where
  mem := by simp
  obj := fun i h st b hb => by
    have e : b = it := by simpa using hb
    subst e
    obtain ⟨o, e, c, d⟩ := st
    exact ⟨o, e, fun v z => by rw [d] at z; cases z⟩
  keep := fun i h h' st k => st.at fun o e => k it (by simp) o e
  item := by
    intro X hP hw hK hc i pins s σ H E I hf st hg
    subst hP hw hK
    obtain ⟨xs, x, hq, hx⟩ := hg
    obtain ⟨its, rv, p, hz⟩ := I.list hq
    obtain ⟨u, hu, ru⟩ := rv.get hx
    obtain ⟨f0, f1, f2, f3, f4, f5⟩ := hf it (by simp)
    refine wpAny_pyNext_list_item st p.isList (x := u) (by simpa using hu) fun h' st' sb => ?_
    have I1 : Inv X pins σ H { s with heap := h' } := I.turned (t' := s.toks) (fun b o hb e => (sb.2 b hb).trans e) f0 f1 f3 f4 f5
    obtain ⟨o, e, c, d⟩ := id st'
    exact ⟨u, rfl, go_of (s := { s with heap := h' }) e c d (by decide) ⟨x, H, I1, ru, ⟨rfl, fun ys hy => by rw [I.list_inj hy hq]; exact hx⟩, st', fun b hb => (hf b hb).1⟩⟩
  done := by
    intro X hP hw hK hc i pins s σ H E I hf st hg
    subst hP hw hK
    obtain ⟨xs, hq, hx⟩ := hg
    obtain ⟨its, rv, p, hz⟩ := I.list hq
    obtain ⟨f0, f1, f2, f3, f4, f5⟩ := hf it (by simp)
    have hl := rv.length
    exact wpAny_pyNext_list_end (I.ok.hd hc) st p.isList (by simp; omega) fun h' eb => ⟨rfl, I.turned (t' := s.toks) (fun b o hb e => eb b o hb e) f0 f1 f3 f4 f5⟩
  self := fun _ _ _ _ _ st h => wpAny_pyIter_listiter st h
theorem turn_tuple {P : Program} {w : World} {K : PySem.W.Frag} {tg : Expr} (a it : Addr) : Turn P w K tg (Itt K a) [it] it (fun i h => h.IsTupleIter it a i) where
  mem := by simp
  obj := fun i h st b hb => by
    have e : b = it := by simpa using hb
    subst e
    obtain ⟨o, e, c, d⟩ := st
    exact ⟨o, e, fun v z => by rw [d] at z; cases z⟩
  keep := fun i h h' st k => st.at fun o e => k it (by simp) o e
  item := by
    intro X hP hw hK hc i pins s σ H E I hf st hg
    subst hP hw hK
    obtain ⟨xs, x, hq, hx⟩ := hg
    obtain ⟨its, rv, p, hz⟩ := I.tuple hq
    obtain ⟨u, hu, ru⟩ := rv.get hx
    obtain ⟨f0, f1, f2, f3, f4, f5⟩ := hf it (by simp)
    refine wpAny_pyNext_tuple_item st (show s.heap.IsTuple a its.toArray from p) (x := u) (by simpa using hu) fun h' st' sb => ?_
    have I1 : Inv X pins σ H { s with heap := h' } := I.turned (t' := s.toks) (fun b o hb e => (sb.2 b hb).trans e) f0 f1 f3 f4 f5
    obtain ⟨o, e, c, d⟩ := id st'
    exact ⟨u, rfl, go_of (s := { s with heap := h' }) e c d (by decide) ⟨x, H, I1, ru, ⟨rfl, fun ys hy => by rw [I.tuple_inj hy hq]; exact hx⟩, st', fun b hb => (hf b hb).1⟩⟩
  done := by
    intro X hP hw hK hc i pins s σ H E I hf st hg
    subst hP hw hK
    obtain ⟨xs, hq, hx⟩ := hg
    obtain ⟨its, rv, p, hz⟩ := I.tuple hq
    obtain ⟨f0, f1, f2, f3, f4, f5⟩ := hf it (by simp)
    have hl := rv.length
    exact wpAny_pyNext_tuple_end (I.ok.hd hc) st (show s.heap.IsTuple a its.toArray from p) (by simp; omega) fun h' eb => ⟨rfl, I.turned (t' := s.toks) (fun b o hb e => eb b o hb e) f0 f1 f3 f4 f5⟩
  self := fun _ _ _ _ _ st h => wpAny_pyIter_tupleiter st h
theorem turn_range {P : Program} {w : World} {K : PySem.W.Frag} {tg : Expr} (it : Addr) (lo : Int) (n : Nat) : Turn P w K tg (Itr lo n) [it] it (fun i h => IsRangeIter h it (lo + (i : Nat) * 1) ((n : Int) - (i : Nat)) 1) where
  mem := by simp
  obj := fun i h st b hb => by
    have e : b = it := by simpa using hb
    subst e
    exact ⟨_, st, fun v z => by
      have z' : Data.fields _ = Data.cell v := z
      cases z'⟩
  keep := fun i h h' st k => k it (by simp) _ st
  item := by
    intro X hP hw hK hc i pins s σ H E I hf st hg
    subst hP hw hK
    obtain ⟨f0, f1, f2, f3, f4, f5⟩ := hf it (by simp)
    have W := Walks.range (prog := X.prog) (w := X.w) (I.ok.hd hc) it lo 1 n
    refine W.item i s _ _ hg st fun v h' tk hv st' kk => ?_
    obtain ⟨t, rfl⟩ := hv
    have I1 : Inv X pins σ H { s with heap := h', toks := tk } := I.turned (fun b o hb e => kk b o (by simpa using hb) e) f0 f1 f3 f4 f5
    refine ⟨_, rfl, go_of (s := { s with heap := h', toks := tk }) (n := "range_iterator") st' rfl rfl (by decide) ⟨.int (lo + i), H, I1, ⟨t, ?_⟩, ⟨rfl, rfl⟩, st', fun b hb => (hf b hb).1⟩⟩
    rw [Int.mul_one]
  done := by
    intro X hP hw hK hc i pins s σ H E I hf st hg
    subst hP hw hK
    obtain ⟨f0, f1, f2, f3, f4, f5⟩ := hf it (by simp)
    exact wpAny_pyNext_range_end (I.ok.hd hc) st (by have : n <= i := hg; omega) fun h' eb => ⟨rfl, I.turned (t' := s.toks) (fun b o hb e => eb b o hb e) f0 f1 f3 f4 f5⟩
  self := fun _ _ _ _ _ st h => wpAny_pyIter_rangeiter st h
end L2
namespace L2
open PySem PySem.Spec PyProof.Rows
section
variable {X : Cx} {tg : Expr}
noncomputable def iList (K : PySem.W.Frag) (tl : TE) : TI := fun σ H R => tl σ H fun x H1 => ∃ a, x = .ref a /\ (∃ xs, SqL K H1 a xs) /\ R (Itl K a) H1
noncomputable def iTup (K : PySem.W.Frag) (tl : TE) : TI := fun σ H R => tl σ H fun x H1 => ∃ a, x = .ref a /\ (∃ xs, SqT K H1 a xs) /\ R (Itt K a) H1
theorem pi_list {l : Expr} {tl : TE} (hl : PE X l tl) : PI X tg l (iList X.K tl) := by
  intro pins s σ H R I h
  refine thn (hl pins s σ H _ I h) fun v s1 ⟨x, H1, I1, r1, q1⟩ => ?_
  obtain ⟨a, e, ⟨xs, hq⟩, q⟩ := q1
  subst e
  cases r1
  obtain ⟨its, rv, p, hz⟩ := I1.list hq
  refine wpAny_pyIter_list p.isList ?_
  refine ⟨s1.heap.objs.size, [s1.heap.objs.size], _, _, H1, rfl, I1.kept (t' := s1.toks) fun b o e => Heap.get?_push_of_some _ e, turn_list a _, ⟨_, Heap.get?_push_size _ rfl, rfl, rfl⟩, fun b hb => ?_, q⟩
  have e : b = s1.heap.objs.size := by simpa using hb
  subst e
  exact I1.fpOk (Nat.le_refl _) (I1.hok.fresh (Nat.le_refl _))
theorem pi_tup {l : Expr} {tl : TE} (hl : PE X l tl) : PI X tg l (iTup X.K tl) := by
  intro pins s σ H R I h
  refine thn (hl pins s σ H _ I h) fun v s1 ⟨x, H1, I1, r1, q1⟩ => ?_
  obtain ⟨a, e, ⟨xs, hq⟩, q⟩ := q1
  subst e
  cases r1
  obtain ⟨its, rv, p, hz⟩ := I1.tuple hq
  refine wpAny_pyIter_tuple (show s1.heap.IsTuple a its.toArray from p) ?_
  refine ⟨s1.heap.objs.size, [s1.heap.objs.size], _, _, H1, rfl, I1.kept (t' := s1.toks) fun b o e => Heap.get?_push_of_some _ e, turn_tuple a _, ⟨_, Heap.get?_push_size _ rfl, rfl, rfl⟩, fun b hb => ?_, q⟩
  have e : b = s1.heap.objs.size := by simpa using hb
  subst e
  exact I1.fpOk (Nat.le_refl _) (I1.hok.fresh (Nat.le_refl _))
theorem range_it {pins : List (Addr × Obj)} {σ : St} {H : Hp} {s : Shared} {R : It -> Hp -> Prop} {E : Value -> Shared -> Prop} {lo hi : Int} {t u v : Tok} {tk : Nat} (I : Inv X pins σ H s) (h1 : -(2 ^ 62) <= lo) (h2 : lo < 2 ^ 62) (h3 : -(2 ^ 62) <= hi) (h4 : hi < 2 ^ 62)
    (q : R (Itr lo (hi - lo).toNat) H) : wpAny (model X.prog X.w) X.A (pyIter (.ref s.heap.objs.size)) (PIE X pins σ tg R) E { s with heap := s.heap.push { cls := .type "range", data := .fields #[.int lo t, .int hi u, .int 1 v] }, toks := tk } := by
  refine wpAny_pyIter_range (IsRange.new ..) (small_one h1 h2 h3 h4) ?_
  have I1 : Inv X pins σ H { s with heap := s.heap.push { cls := .type "range", data := .fields #[.int lo t, .int hi u, .int 1 v] }, toks := tk } := I.kept fun b o e => Heap.get?_push_of_some _ e
  refine ⟨(s.heap.push { cls := .type "range", data := .fields #[.int lo t, .int hi u, .int 1 v] }).objs.size, [(s.heap.push { cls := .type "range", data := .fields #[.int lo t, .int hi u, .int 1 v] }).objs.size], _, _, H, rfl,
    I1.kept (t' := tk) fun b o e => Heap.get?_push_of_some _ e, turn_range _ lo (hi - lo).toNat, ?_, fun b hb => ?_, q⟩
  · have e1 : lo + ((0 : Nat) : Int) * 1 = lo := by simp
    have e2 : (((hi - lo).toNat : Nat) : Int) - ((0 : Nat) : Int) = Builtin.Range.rangeSize lo hi 1 := by rw [rangeSize_one]; split <;> omega
    show IsRangeIter _ _ (lo + ((0 : Nat) : Int) * 1) ((((hi - lo).toNat : Nat) : Int) - ((0 : Nat) : Int)) 1
    rw [e1, e2]
    exact Heap.get?_push_size _ rfl
  · have e : b = (s.heap.push { cls := .type "range", data := .fields #[.int lo t, .int hi u, .int 1 v] }).objs.size := by simpa using hb
    subst e
    exact I1.fpOk (Nat.le_refl _) (I1.hok.fresh (Nat.le_refl _))
noncomputable def iRng1 (ta : TA) : TI := fun σ H R => ta σ H fun vs H1 => ∃ j : Int, vs = [.int j] /\ -(2 ^ 62) <= j /\ j < 2 ^ 62 /\ R (Itr 0 j.toNat) H1
theorem pi_range1 {a : Expr} {ta : TA} {p pos : Pos} (hg : Gl X "range") (hm : X.mg "range" = none) (ha : PA X [a] ta) (hs : starEach [a] X.env = [(false, eval a X.env)] := by rfl) : PI X tg (.Call (.Name "range" p) [a] [] pos) (iRng1 ta) := by
  intro pins s σ H R I h
  refine Call_ (ld_blt I hg hm boot_range (PyProof.Rows.callWith_type1 (thn (ha pos pins s σ H _ I h) fun us s1 ⟨vs, H1, I1, r1, q1⟩ => ?_) hs rfl))
  obtain ⟨j, e, q1, q2, q⟩ := q1
  subst e
  cases r1 with
  | cons r rr =>
    cases rr
    obtain ⟨t, rfl⟩ := r
    exact call_range_1 (range_it I1 (by omega) (by omega) q1 q2 (by simpa using q))
noncomputable def tFor (wi : TI) (g : TG) (tb : TS) : TS := fun D σ H => wi σ H fun J H1 => ∃ W : Nat -> Nat -> St -> Hp -> Prop, (∃ m, W 0 m σ H1) /\ ∀ i m σ H, W i m σ H ->
  (J.stop i H /\ D.nx σ H) \/ (J.go i H /\ ∃ N : St -> Hp -> Prop, (∀ σ' H', N σ' H' -> ∃ m', m' < m /\ W (i + 1) m' σ' H') /\ ∀ x H', J.yld i H x H' -> g x σ H' fun σ2 H2 => tb { D with nx := N, ct := N, bk := D.nx } σ2 H2)
noncomputable def pinsAt (fp : List Addr) (h : Heap) : List (Addr × Obj) := fp.filterMap fun b => (h.get? b).map fun o => (b, o)
theorem mem_pinsAt {fp : List Addr} {h : Heap} {b : Addr} {o : Obj} (hb : b ∈ fp) (e : h.get? b = some o) : (b, o) ∈ pinsAt fp h := List.mem_filterMap.mpr ⟨b, hb, by rw [e]; rfl⟩
theorem of_pinsAt {fp : List Addr} {h : Heap} {p : Addr × Obj} (hp : p ∈ pinsAt fp h) : p.1 ∈ fp /\ h.get? p.1 = some p.2 := by
  obtain ⟨b, hb, e⟩ := List.mem_filterMap.mp hp
  cases q : h.get? b with
  | none => rw [q] at e; cases e
  | some o =>
    rw [q] at e
    have e' : (b, o) = p := Option.some.inj e
    subst e'
    exact ⟨hb, q⟩
theorem Inv.pinned {pins : List (Addr × Obj)} {σ : St} {H : Hp} {s : Shared} {fp : List Addr} (I : Inv X pins σ H s) (hf : ∀ b ∈ fp, FpOk X pins H b) (ho : ∀ b ∈ fp, ∃ o, s.heap.get? b = some o /\ ∀ v, o.data ≠ .cell v) : Inv X (pins ++ pinsAt fp s.heap) σ H s :=
  I.pins_of fun p hp => (List.mem_append.mp hp).elim (fun z => I.pin p (List.mem_append_right _ z)) fun z => by
    obtain ⟨hb, e⟩ := of_pinsAt z
    obtain ⟨f0, f1, f2, _⟩ := hf p.1 hb
    obtain ⟨o, e', d⟩ := ho p.1 hb
    rw [e] at e'; cases e'
    exact ⟨e, f0, f1, f2, d⟩
theorem Inv.unpinned {pins pl : List (Addr × Obj)} {σ : St} {H : Hp} {s : Shared} (I : Inv X (pins ++ pl) σ H s) : Inv X pins σ H s := I.pins_of fun p hp => I.pin p (List.mem_append_right _ (List.mem_append_left _ hp))
theorem ps_for {iter : Expr} {body : List Stmt} {wi : TI} {g : TG} {tb : TS} {pos : Pos} (hp : PassesOwn (model X.prog X.w) X.A X.env X.xe) (hc : X.calm = true) (hi : PI X tg iter wi) (hg : PG X tg g) (hb : PSs X body tb)
    (hs : ∀ x, foldedSetIterable iter X.env x = pure x := by intro _; rfl) : PS X (.For tg iter body [] pos) (tFor wi g tb) := by
  intro pins s σ H D I h
  refine wpAny_For (thn (hi pins s σ H _ I h) fun v s1 h1 => thn h1 fun itv s2 h2 => ?_) hs
  obtain ⟨it, fp, tn, J, H2, e, I2, T, st2, f2, W, ⟨m0, w0⟩, turn⟩ := h2
  subst e
  -- what stays true of the iterator's objects through the loop
  have stat : ∀ {H' : Hp}, (∀ b ∈ fp, H' b = none) -> ∀ b ∈ fp, FpOk X pins H' b := fun hn b hb => ⟨hn b hb, (f2 b hb).2⟩
  refine codeAny_forLoop_any (fun n s' => ∃ i σ' H', Inv X pins σ' H' s' /\ tn i s'.heap /\ (∀ b ∈ fp, H' b = none) /\ W i n σ' H') ?_ m0 ⟨0, σ, H2, I2, st2, fun b hb => (f2 b hb).1, w0⟩
  rintro n s3 ⟨i, σ3, H3, I3, st3, fr3, w3⟩
  rcases turn i n σ3 H3 w3 with ⟨stop, qn⟩ | ⟨go, N, hN, step⟩
  · refine wpAny_passesOwn hp (thn (T.done X rfl rfl rfl hc i pins s3 σ3 H3 X.xe I3 (stat fr3) st3 stop) fun r s4 ⟨hr, I4⟩ => ?_)
    subst hr
    exact wpAny_execs_nil ⟨σ3, H3, I4, qn⟩
  · refine wpAny_passesOwn hp (thn (T.item X rfl rfl rfl hc i pins s3 σ3 H3 X.xe I3 (stat fr3) st3 go) fun r s4 ⟨u, hr, h4⟩ => ?_)
    subst hr
    refine wpAny_passesOwn hp (thn h4 fun _ s5 ⟨x, H5, I5, r5, y5, st5, fr5⟩ => ?_)
    have I5' := I5.pinned (stat fr5) (T.obj _ _ st5)
    refine wpAny_passesOwn hp (thn (hg _ s5 σ3 H5 x u _ I5' r5 (step x H5 y5)) fun _ s6 ⟨σ6, H6, I6, q6⟩ => ?_)
    refine wpAny_passesOwn hp (thn (hb _ s6 σ6 H6 _ I6 q6) fun f s7 q7 => ?_)
    have again : ∀ {σ7 : St} {H7 : Hp}, Inv X (pins ++ pinsAt fp s5.heap) σ7 H7 s7 -> N σ7 H7 -> ∃ m, m < n /\ ∃ i σ' H', Inv X pins σ' H' s7 /\ tn i s7.heap /\ (∀ b ∈ fp, H' b = none) /\ W i m σ' H' := fun {σ7 H7} I7 n7 => by
      obtain ⟨m', hm, w7⟩ := hN σ7 H7 n7
      refine ⟨m', hm, i + 1, σ7, H7, I7.unpinned, T.keep _ _ _ st5 fun b hb o e => (I7.pin (b, o) (List.mem_append_right _ (List.mem_append_right _ (mem_pinsAt hb e)))).1, fun b hb => ?_, w7⟩
      obtain ⟨o, e, d⟩ := T.obj _ _ st5 b hb
      exact (I7.pin (b, o) (List.mem_append_right _ (List.mem_append_right _ (mem_pinsAt hb e)))).2.1
    cases f with
    | next => obtain ⟨σ7, H7, I7, n7⟩ := q7; exact again I7 n7
    | cont => obtain ⟨σ7, H7, I7, n7⟩ := q7; exact again I7 n7
    | brk => obtain ⟨σ7, H7, I7, q7⟩ := q7; exact ⟨σ7, H7, I7.unpinned, q7⟩
    | ret v => obtain ⟨x7, σ7, H7, I7, r7, q7⟩ := q7; exact ⟨x7, σ7, H7, I7.unpinned, r7, q7⟩
end
theorem for_list {K : PySem.W.Frag} {a : Addr} {xs : List V} {g : TG} {tb : TS} {D : Ends} {σ : St} {H : Hp} (Pv : Nat -> St -> Hp -> Prop) (h0 : Pv 0 σ H) (hl : ∀ i σ H, i <= xs.length -> Pv i σ H -> SqL K H a xs)
    (hs : ∀ i x σ H, xs[i]? = some x -> Pv i σ H -> g x σ H fun σ2 H2 => tb { D with nx := Pv (i + 1), ct := Pv (i + 1), bk := D.nx } σ2 H2) (hd : ∀ σ H, Pv xs.length σ H -> D.nx σ H) :
    ∃ W : Nat -> Nat -> St -> Hp -> Prop, (∃ m, W 0 m σ H) /\ ∀ i m σ H, W i m σ H ->
      ((Itl K a).stop i H /\ D.nx σ H) \/ ((Itl K a).go i H /\ ∃ N : St -> Hp -> Prop, (∀ σ' H', N σ' H' -> ∃ m', m' < m /\ W (i + 1) m' σ' H') /\ ∀ x H', (Itl K a).yld i H x H' -> g x σ H' fun σ2 H2 => tb { D with nx := N, ct := N, bk := D.nx } σ2 H2) := by
  refine ⟨fun i m σ H => m = xs.length - i /\ i <= xs.length /\ Pv i σ H, ⟨xs.length, by simp, Nat.zero_le _, h0⟩, ?_⟩
  rintro i m σ H ⟨rfl, hi, p⟩
  have q := hl i σ H hi p
  by_cases hlt : i < xs.length
  · refine .inr ⟨⟨xs, xs[i], q, by simp [hlt]⟩, Pv (i + 1), fun σ' H' p' => ⟨xs.length - (i + 1), by omega, rfl, hlt, p'⟩, fun x H' y => ?_⟩
    obtain ⟨e, y⟩ := y
    subst e
    exact hs i x σ _ (y xs q) p
  · have e : i = xs.length := by omega
    subst e
    exact .inl ⟨⟨xs, q, Nat.le_refl _⟩, hd σ H p⟩
theorem for_tup {K : PySem.W.Frag} {a : Addr} {xs : List V} {g : TG} {tb : TS} {D : Ends} {σ : St} {H : Hp} (Pv : Nat -> St -> Hp -> Prop) (h0 : Pv 0 σ H) (hl : ∀ i σ H, i <= xs.length -> Pv i σ H -> SqT K H a xs)
    (hs : ∀ i x σ H, xs[i]? = some x -> Pv i σ H -> g x σ H fun σ2 H2 => tb { D with nx := Pv (i + 1), ct := Pv (i + 1), bk := D.nx } σ2 H2) (hd : ∀ σ H, Pv xs.length σ H -> D.nx σ H) :
    ∃ W : Nat -> Nat -> St -> Hp -> Prop, (∃ m, W 0 m σ H) /\ ∀ i m σ H, W i m σ H ->
      ((Itt K a).stop i H /\ D.nx σ H) \/ ((Itt K a).go i H /\ ∃ N : St -> Hp -> Prop, (∀ σ' H', N σ' H' -> ∃ m', m' < m /\ W (i + 1) m' σ' H') /\ ∀ x H', (Itt K a).yld i H x H' -> g x σ H' fun σ2 H2 => tb { D with nx := N, ct := N, bk := D.nx } σ2 H2) := by
  refine ⟨fun i m σ H => m = xs.length - i /\ i <= xs.length /\ Pv i σ H, ⟨xs.length, by simp, Nat.zero_le _, h0⟩, ?_⟩
  rintro i m σ H ⟨rfl, hi, p⟩
  have q := hl i σ H hi p
  by_cases hlt : i < xs.length
  · refine .inr ⟨⟨xs, xs[i], q, by simp [hlt]⟩, Pv (i + 1), fun σ' H' p' => ⟨xs.length - (i + 1), by omega, rfl, hlt, p'⟩, fun x H' y => ?_⟩
    obtain ⟨e, y⟩ := y
    subst e
    exact hs i x σ _ (y xs q) p
  · have e : i = xs.length := by omega
    subst e
    exact .inl ⟨⟨xs, q, Nat.le_refl _⟩, hd σ H p⟩
theorem for_range {lo : Int} {n : Nat} {g : TG} {tb : TS} {D : Ends} {σ : St} {H : Hp} (Pv : Nat -> St -> Hp -> Prop) (h0 : Pv 0 σ H)
    (hs : ∀ i σ H, i < n -> Pv i σ H -> g (.int (lo + i)) σ H fun σ2 H2 => tb { D with nx := Pv (i + 1), ct := Pv (i + 1), bk := D.nx } σ2 H2) (hd : ∀ σ H, Pv n σ H -> D.nx σ H) :
    ∃ W : Nat -> Nat -> St -> Hp -> Prop, (∃ m, W 0 m σ H) /\ ∀ i m σ H, W i m σ H ->
      ((Itr lo n).stop i H /\ D.nx σ H) \/ ((Itr lo n).go i H /\ ∃ N : St -> Hp -> Prop, (∀ σ' H', N σ' H' -> ∃ m', m' < m /\ W (i + 1) m' σ' H') /\ ∀ x H', (Itr lo n).yld i H x H' -> g x σ H' fun σ2 H2 => tb { D with nx := N, ct := N, bk := D.nx } σ2 H2) := by
  refine ⟨fun i m σ H => m = n - i /\ i <= n /\ Pv i σ H, ⟨n, by simp, Nat.zero_le _, h0⟩, ?_⟩
  rintro i m σ H ⟨rfl, hi, p⟩
  by_cases hlt : i < n
  · refine .inr ⟨hlt, Pv (i + 1), fun σ' H' p' => ⟨n - (i + 1), by omega, rfl, hlt, p'⟩, fun x H' y => ?_⟩
    obtain ⟨e, y⟩ := y
    subst e y
    exact hs i σ _ hlt p
  · have e : i = n := by omega
    subst e
    exact .inl ⟨Nat.le_refl _, hd σ H p⟩
end L2
namespace L2
open PySem PySem.Spec PyProof.Rows
noncomputable abbrev R2 := V -> V -> Hp -> VK -> Prop
noncomputable def OpR (X : Cx) (f : Value -> Value -> Sem Value) (r : R2) : Prop :=
  ∀ (pins : List (Addr × Obj)) (s : Shared) (σ : St) (H : Hp) (x y : V) (v u : Value) (Q : VK), Inv X pins σ H s -> RelV x v -> RelV y u -> r x y H Q ->
    wpAny (model X.prog X.w) X.A (f v u) (EP X pins σ Q) X.xe s
noncomputable def UnR (X : Cx) (f : Value -> Sem Value) (r : V -> Hp -> VK -> Prop) : Prop :=
  ∀ (pins : List (Addr × Obj)) (s : Shared) (σ : St) (H : Hp) (x : V) (v : Value) (Q : VK), Inv X pins σ H s -> RelV x v -> r x H Q ->
    wpAny (model X.prog X.w) X.A (f v) (EP X pins σ Q) X.xe s
noncomputable def CallR (X : Cx) (f : Value) (r : List V -> Hp -> VK -> Prop) : Prop :=
  ∀ (pins : List (Addr × Obj)) (s : Shared) (σ : St) (H : Hp) (xs : List V) (us : List Value) (Q : VK), Inv X pins σ H s -> Vals xs us -> r xs H Q ->
    wpAny (model X.prog X.w) X.A (call f us) (EP X pins σ Q) X.xe s
noncomputable def tOp (r : R2) (ta tb : TE) : TE := fun σ H Q => ta σ H fun x H1 => tb σ H1 fun y H2 => r x y H2 Q
noncomputable def tUn (r : V -> Hp -> VK -> Prop) (ta : TE) : TE := fun σ H Q => ta σ H fun x H1 => r x H1 Q
noncomputable def rI (C : Int -> Int -> Prop) (g : Int -> Int -> V) : R2 := fun x y H Q => ∃ i j, x = .int i /\ y = .int j /\ C i j /\ Q (g i j) H
noncomputable def rI0 (g : Int -> Int -> V) : R2 := fun x y H Q => ∃ i j, x = .int i /\ y = .int j /\ Q (g i j) H
noncomputable def rU (g : Int -> V) : V -> Hp -> VK -> Prop := fun x H Q => ∃ i, x = .int i /\ Q (g i) H
section
variable {X : Cx} {a b c : Expr} {ta tb tc : TE} {pos : Pos}
theorem binT (ha : PE X a ta) (hb : PE X b tb) {pins : List (Addr × Obj)} {s : Shared} {σ : St} {H : Hp} {R : V -> V -> Hp -> Prop} (I : Inv X pins σ H s)
    (h : ta σ H fun x H1 => tb σ H1 fun y H2 => R x y H2) {Q : Value -> Shared -> Prop} {f : Value -> Value -> Sem Value}
    (hf : ∀ v u s2 x y H2, Inv X pins σ H2 s2 -> RelV x v -> RelV y u -> R x y H2 -> wpAny (model X.prog X.w) X.A (f v u) Q X.xe s2) :
    wpAny (model X.prog X.w) X.A (eval a X.env) (fun v s₁ => wpAny (model X.prog X.w) X.A (eval b X.env) (fun u s₂ => wpAny (model X.prog X.w) X.A (f v u) Q X.xe s₂) X.xe s₁) X.xe s := by
  refine thn (ha pins s σ H _ I h) fun v s1 ⟨x, H1, I1, r1, q1⟩ => ?_
  refine thn (hb pins s1 σ H1 _ I1 q1) fun u s2 ⟨y, H2, I2, r2, q2⟩ => ?_
  exact hf v u s2 x y H2 I2 r1 r2 q2
theorem pe_op {op : Operator} {r : R2} (ho : OpR X (binaryOp op) r) (ha : PE X a ta) (hb : PE X b tb) : PE X (.BinOp a op b pos) (tOp r ta tb) := by
  intro pins s σ H Q I h
  exact wpAny_BinOp (binT ha hb I h fun v u s2 x y H2 I2 rx ry q => ho pins s2 σ H2 x y v u Q I2 rx ry q)
theorem pe_un {op : UnaryOp} {r : V -> Hp -> VK -> Prop} (ho : UnR X (unaryOp op) r) (ha : PE X a ta) : PE X (.UnaryOp op a pos) (tUn r ta) := by
  intro pins s σ H Q I h
  exact UnaryOp_ (thn (ha pins s σ H _ I h) fun v s1 ⟨x, H1, I1, r1, q1⟩ => ho pins s1 σ H1 x v Q I1 r1 q1)
theorem opI {f : Value -> Value -> Sem Value} {C : Int -> Int -> Prop} {g : Int -> Int -> Int}
    (rule : ∀ (i j : Int) (t u : Tok) (s : Shared) (Q : Value -> Shared -> Prop) (E : Value -> Shared -> Prop), C i j -> Q (.int (g i j) s.toks) { s with toks := s.toks + 1 } -> wpAny (model X.prog X.w) X.A (f (.int i t) (.int j u)) Q E s) :
    OpR X f (rI C fun i j => .int (g i j)) := by
  intro pins s σ H x y v u Q I rx ry h
  obtain ⟨i, j, rfl, rfl, hc, q⟩ := h
  obtain ⟨t, rfl⟩ := rx
  obtain ⟨t', rfl⟩ := ry
  exact rule i j t t' s _ _ hc ⟨.int (g i j), H, I.tok _, ⟨_, rfl⟩, q⟩
theorem opI0 {f : Value -> Value -> Sem Value} {g : Int -> Int -> Int}
    (rule : ∀ (i j : Int) (t u : Tok) (s : Shared) (Q : Value -> Shared -> Prop) (E : Value -> Shared -> Prop), Q (.int (g i j) s.toks) { s with toks := s.toks + 1 } -> wpAny (model X.prog X.w) X.A (f (.int i t) (.int j u)) Q E s) :
    OpR X f (rI0 fun i j => .int (g i j)) := by
  intro pins s σ H x y v u Q I rx ry h
  obtain ⟨i, j, rfl, rfl, q⟩ := h
  obtain ⟨t, rfl⟩ := rx
  obtain ⟨t', rfl⟩ := ry
  exact rule i j t t' s _ _ ⟨.int (g i j), H, I.tok _, ⟨_, rfl⟩, q⟩
theorem opB0 {f : Value -> Value -> Sem Value} {g : Int -> Int -> Bool}
    (rule : ∀ (i j : Int) (t u : Tok) (s : Shared) (Q : Value -> Shared -> Prop) (E : Value -> Shared -> Prop), Q (.bool (g i j)) s -> wpAny (model X.prog X.w) X.A (f (.int i t) (.int j u)) Q E s) :
    OpR X f (rI0 fun i j => .bl (g i j)) := by
  intro pins s σ H x y v u Q I rx ry h
  obtain ⟨i, j, rfl, rfl, q⟩ := h
  obtain ⟨t, rfl⟩ := rx
  obtain ⟨t', rfl⟩ := ry
  exact rule i j t t' s _ _ ⟨.bl (g i j), H, I, rfl, q⟩
noncomputable def CDiv (i j : Int) : Prop := 0 < j /\ j < 1073741824
noncomputable def CPow (i j : Int) : Prop := 0 <= j /\ j <= 1000000 /\ i.natAbs < 2 ^ 64
noncomputable def CMul (i j : Int) : Prop := (-(2 ^ 64) < i /\ i < 2 ^ 64) \/ (-(2 ^ 64) < j /\ j < 2 ^ 64)
theorem CMul.ok {i j : Int} (h : CMul i j) : IntMulOk i j := by
  rcases h with ⟨h1, h2⟩ | ⟨h1, h2⟩
  · exact .of_left (intBits_le_64 h1 h2)
  · exact .of_right (intBits_le_64 h1 h2)
theorem op_add : OpR X (binaryOp .Add) (rI0 fun i j => .int (i + j)) := opI0 fun _ _ _ _ _ _ _ q => add_int q
theorem op_sub : OpR X (binaryOp .Sub) (rI0 fun i j => .int (i - j)) := opI0 fun _ _ _ _ _ _ _ q => sub_int q
theorem op_mul : OpR X (binaryOp .Mult) (rI CMul fun i j => .int (i * j)) := opI fun _ _ _ _ _ _ _ hc q => mul_int q hc.ok
theorem op_fdiv : OpR X (binaryOp .FloorDiv) (rI CDiv fun i j => .int (i / j)) := opI fun i j _ _ _ _ _ hc q => by
  have h1 : (0 : Int) < j := hc.1
  have h2 : j < 1073741824 := hc.2
  exact floordiv_int (by omega) (by rw [Int.fdiv_eq_ediv_of_nonneg i (by omega)]; exact q) (.inl (PyProof.noPylong_small (by omega)))
theorem op_mod : OpR X (binaryOp .Mod) (rI (fun _ j => 0 < j) fun i j => .int (i % j)) := opI fun i j _ _ _ _ _ hc q => by
  have h1 : (0 : Int) < j := hc
  exact mod_int' (by omega) (by rw [Int.fmod_eq_emod_of_nonneg i (by omega)]; exact q)
theorem op_pow : OpR X (binaryOp .Pow) (rI CPow fun i j => .int (i ^ j.toNat)) := opI fun _ _ _ _ _ _ _ hc q => pow_int_small hc.1 hc.2.1 hc.2.2 q
theorem unI {f : Value -> Sem Value} {g : Int -> Int}
    (rule : ∀ (i : Int) (t : Tok) (s : Shared) (Q : Value -> Shared -> Prop) (E : Value -> Shared -> Prop), Q (.int (g i) s.toks) { s with toks := s.toks + 1 } -> wpAny (model X.prog X.w) X.A (f (.int i t)) Q E s) :
    UnR X f (rU fun i => .int (g i)) := by
  intro pins s σ H x v Q I rx h
  obtain ⟨i, rfl, q⟩ := h
  obtain ⟨t, rfl⟩ := rx
  exact rule i t s _ _ ⟨.int (g i), H, I.tok _, ⟨_, rfl⟩, q⟩
theorem un_neg : UnR X (unaryOp .USub) (rU fun i => .int (-i)) := unI fun _ _ _ _ _ q => neg_int q
end
noncomputable def scal : V -> V -> Bool
  | .non, .non => true | .non, .int _ => true | .int _, .non => true | .non, .bl _ => true | .bl _, .non => true | .non, .str _ => true | .str _, .non => true
  | .int _, .int _ => true | .bl _, .bl _ => true | .str _, .str _ => true | .byt _, .byt _ => true
  | .int _, .str _ => true | .str _, .int _ => true | .bl _, .str _ => true | .str _, .bl _ => true
  | _, _ => false
noncomputable def rEq : R2 := fun x y H Q => scal x y = true /\ Q (.bl (decide (x = y))) H
noncomputable def rNe : R2 := fun x y H Q => scal x y = true /\ Q (.bl (!decide (x = y))) H
theorem dec_int {i j : Int} : decide (V.int i = V.int j) = (i == j) := by
  rw [Bool.eq_iff_iff]
  simp
theorem dec_bl {i j : Bool} : decide (V.bl i = V.bl j) = (i == j) := by
  rw [Bool.eq_iff_iff]
  simp
theorem dec_str {i j : Str} : decide (V.str i = V.str j) = (i == j) := by
  rw [Bool.eq_iff_iff]
  simp
theorem dec_byt {i j : Array UInt8} : decide (V.byt i = V.byt j) = (i.toList == j.toList) := by
  rw [Bool.eq_iff_iff]
  cases i
  cases j
  simp
section
variable {X : Cx} {a b c : Expr} {ta tb tc : TE} {pos : Pos}
theorem fin_bl {pins : List (Addr × Obj)} {σ : St} {H : Hp} {s : Shared} {Q : VK} {k k' : Bool} (I : Inv X pins σ H s) (q : Q (.bl k) H) (e : k = k') : EP X pins σ Q (.bool k') s := by
  subst e
  exact ⟨.bl k, H, I, rfl, q⟩
theorem op_eq : OpR X (compareOp .Eq) rEq := by
  intro pins s σ H x y v u Q I rx ry h
  obtain ⟨hs, q⟩ := h
  cases x with
  | non =>
    cases rx
    cases y with
    | non => cases ry; exact PySem.EqNone.eq_none_none (fin_bl I q (by simp))
    | bl j => cases ry; exact PySem.EqNone.eq_none_bool (fin_bl I q (by simp))
    | int j => obtain ⟨t', rfl⟩ := ry; exact PySem.EqNone.eq_none_int (fin_bl I q (by simp))
    | str j => obtain ⟨t', rfl⟩ := ry; exact PySem.EqNone.eq_none_str (fin_bl I q (by simp))
    | _ => exact absurd (show false = true from hs) Bool.false_ne_true
  | bl i =>
    cases rx
    cases y with
    | non => cases ry; exact PySem.EqNone.eq_bool_none (fin_bl I q (by simp))
    | bl j => cases ry; exact eq_bool (fin_bl I q dec_bl)
    | str j => obtain ⟨t', rfl⟩ := ry; exact PySem.EqMixed.eq_bool_str (fin_bl I q (by simp))
    | _ => exact absurd (show false = true from hs) Bool.false_ne_true
  | int i =>
    obtain ⟨t, rfl⟩ := rx
    cases y with
    | non => cases ry; exact PySem.EqNone.eq_int_none (fin_bl I q (by simp))
    | int j => obtain ⟨t', rfl⟩ := ry; exact eq_int (fin_bl I q dec_int)
    | str j => obtain ⟨t', rfl⟩ := ry; exact PySem.EqMixed.eq_int_str (fin_bl I q (by simp))
    | _ => exact absurd (show false = true from hs) Bool.false_ne_true
  | str i =>
    obtain ⟨t, rfl⟩ := rx
    cases y with
    | non => cases ry; exact PySem.EqNone.eq_str_none (fin_bl I q (by simp))
    | bl j => cases ry; exact PySem.EqMixed.eq_str_bool (fin_bl I q (by simp))
    | int j => obtain ⟨t', rfl⟩ := ry; exact PySem.EqMixed.eq_str_int (fin_bl I q (by simp))
    | str j => obtain ⟨t', rfl⟩ := ry; exact eq_str (fin_bl I q dec_str)
    | _ => exact absurd (show false = true from hs) Bool.false_ne_true
  | byt i =>
    obtain ⟨t, rfl⟩ := rx
    cases y with
    | byt j => obtain ⟨t', rfl⟩ := ry; exact PySem.W.eq_bytes (fin_bl I q dec_byt)
    | _ => exact absurd (show false = true from hs) Bool.false_ne_true
  | _ => cases y <;> exact absurd (show false = true from hs) Bool.false_ne_true
theorem op_ne : OpR X (compareOp .NotEq) rNe := by
  intro pins s σ H x y v u Q I rx ry h
  obtain ⟨hs, q⟩ := h
  cases x with
  | non =>
    cases rx
    cases y with
    | non => cases ry; exact PySem.EqNone.ne_none_none (fin_bl I q (by simp))
    | bl j => cases ry; exact PySem.EqNone.ne_none_bool (fin_bl I q (by simp))
    | int j => obtain ⟨t', rfl⟩ := ry; exact PySem.EqNone.ne_none_int (fin_bl I q (by simp))
    | str j => obtain ⟨t', rfl⟩ := ry; exact PySem.EqNone.ne_none_str (fin_bl I q (by simp))
    | _ => exact absurd (show false = true from hs) Bool.false_ne_true
  | bl i =>
    cases rx
    cases y with
    | non => cases ry; exact PySem.EqNone.ne_bool_none (fin_bl I q (by simp))
    | bl j => cases ry; exact ne_bool (fin_bl I q (congrArg not dec_bl))
    | str j => obtain ⟨t', rfl⟩ := ry; exact PySem.EqMixed.ne_bool_str (fin_bl I q (by simp))
    | _ => exact absurd (show false = true from hs) Bool.false_ne_true
  | int i =>
    obtain ⟨t, rfl⟩ := rx
    cases y with
    | non => cases ry; exact PySem.EqNone.ne_int_none (fin_bl I q (by simp))
    | int j => obtain ⟨t', rfl⟩ := ry; exact ne_int (fin_bl I q (congrArg not dec_int))
    | str j => obtain ⟨t', rfl⟩ := ry; exact PySem.EqMixed.ne_int_str (fin_bl I q (by simp))
    | _ => exact absurd (show false = true from hs) Bool.false_ne_true
  | str i =>
    obtain ⟨t, rfl⟩ := rx
    cases y with
    | non => cases ry; exact PySem.EqNone.ne_str_none (fin_bl I q (by simp))
    | bl j => cases ry; exact PySem.EqMixed.ne_str_bool (fin_bl I q (by simp))
    | int j => obtain ⟨t', rfl⟩ := ry; exact PySem.EqMixed.ne_str_int (fin_bl I q (by simp))
    | str j => obtain ⟨t', rfl⟩ := ry; exact ne_str (fin_bl I q (congrArg not dec_str))
    | _ => exact absurd (show false = true from hs) Bool.false_ne_true
  | byt i =>
    obtain ⟨t, rfl⟩ := rx
    cases y with
    | byt j => obtain ⟨t', rfl⟩ := ry; exact PySem.W.ne_bytes (fin_bl I q (congrArg not dec_byt))
    | _ => exact absurd (show false = true from hs) Bool.false_ne_true
  | _ => cases y <;> exact absurd (show false = true from hs) Bool.false_ne_true
theorem op_lt : OpR X (compareOp .Lt) (rI0 fun i j => .bl (decide (i < j))) := opB0 fun _ _ _ _ _ _ _ q => lt_int q
theorem op_le : OpR X (compareOp .LtE) (rI0 fun i j => .bl (decide (i <= j))) := opB0 fun _ _ _ _ _ _ _ q => le_int q
theorem op_gt : OpR X (compareOp .Gt) (rI0 fun i j => .bl (decide (j < i))) := opB0 fun _ _ _ _ _ _ _ q => gt_int q
theorem op_ge : OpR X (compareOp .GtE) (rI0 fun i j => .bl (decide (j <= i))) := opB0 fun _ _ _ _ _ _ _ q => ge_int q
theorem op_in_str : OpR X (compareOp .In) (fun x y H Q => ∃ i j, x = .str i /\ y = .str j /\ Q (.bl (!(Builtin.Str.occurrences j i 0 j.length 1).isEmpty)) H) := by
  intro pins s σ H x y v u Q I rx ry h
  obtain ⟨i, j, rfl, rfl, q⟩ := h
  obtain ⟨t, rfl⟩ := rx
  obtain ⟨t', rfl⟩ := ry
  exact in_str (fin_bl I q rfl)
theorem op_isN : OpR X (compareOp .Is) (fun x y H Q => y = .non /\ Q (.bl (decide (x = .non))) H) := by
  intro pins s σ H x y v u Q I rx ry h
  obtain ⟨rfl, q⟩ := h
  cases ry
  refine is_none_gen (fin_bl I q ?_)
  cases x <;> first
    | (cases rx; rfl)
    | (obtain ⟨t, rfl⟩ := rx; rfl)
theorem nomark (b : Expr) {op : CmpOp} (h : op ≠ .In := by decide) (h2 : op ≠ .NotIn := by decide) : behindInMarks op b = false := by
  have e1 : (op == CmpOp.In) = false := by cases op <;> first | rfl | exact absurd rfl h
  have e2 : (op == CmpOp.NotIn) = false := by cases op <;> first | rfl | exact absurd rfl h2
  cases b <;> simp [behindInMarks, e1, e2]
theorem pe_cmpR {op : CmpOp} {r : R2} (ho : OpR X (compareOp op) r) (ha : PE X a ta) (hb : PE X b tb) (hm : behindInMarks op b = false) : PE X (.Compare a [op] [b] pos) (tOp r ta tb) := by
  intro pins s σ H Q I h
  exact wpAny_Compare1 (binT ha hb I h fun v u s2 x y H2 I2 rx ry q => ho pins s2 σ H2 x y v u Q I2 rx ry q) hm
noncomputable def tTest (t : TE) : TT := fun σ H Q => t σ H fun x H' => ∃ k, x = .bl k /\ Q k H'
theorem pt_cmpR {op : CmpOp} {r : R2} (ho : OpR X (compareOp op) r) (ha : PE X a ta) (hb : PE X b tb) (hm : behindInMarks op b = false) : PT X (.Compare a [op] [b] pos) (tTest (tOp r ta tb)) := by
  intro pins s σ H Q I h
  refine wpAny_isTrue_Compare1 (thn (ha pins s σ H _ I h) fun v s1 ⟨x, H1, I1, r1, q1⟩ => thn (hb pins s1 σ H1 _ I1 q1) fun u s2 ⟨y, H2, I2, r2, q2⟩ =>
    thn (ho pins s2 σ H2 x y v u _ I2 r1 r2 q2) fun c s3 ⟨z, H3, I3, r3, k, e, q3⟩ => ?_) hm
  subst e
  cases r3
  exact wpAny_truthy_bool ⟨H3, I3, q3⟩
noncomputable def tChain (r r' : R2) (ta tb tc : TE) : TE := fun σ H Q => ta σ H fun x H1 => tb σ H1 fun y H2 => r x y H2 fun z H3 => ∃ k, z = .bl k /\
  (if k = true then tc σ H3 fun w' H4 => r' y w' H4 Q else Q (.bl false) H3)
theorem pe_chain {op op' : CmpOp} {r r' : R2} (ho : OpR X (compareOp op) r) (ho' : OpR X (compareOp op') r') (ha : PE X a ta) (hb : PE X b tb) (hc : PE X c tc)
    (hm : lastMarks [op, op'] [b, c] = false := by with_unfolding_all rfl) : PE X (.Compare a [op, op'] [b, c] pos) (tChain r r' ta tb tc) := by
  intro pins s σ H Q I h
  refine Compare_chain (thn (ha pins s σ H _ I h) fun v s1 ⟨x, H1, I1, r1, q1⟩ => chain_link (thn (hb pins s1 σ H1 _ I1 q1) fun u s2 ⟨y, H2, I2, r2, q2⟩ =>
    thn (ho pins s2 σ H2 x y v u _ I2 r1 r2 q2) fun d s3 ⟨z, H3, I3, r3, k, e, q3⟩ => ?_)) hm
  subst e
  cases r3
  refine wpAny_truthy_bool ?_
  cases k with
  | false => exact ite_ff ⟨.bl false, H3, I3, rfl, q3⟩
  | true => exact ite_tt (chain_last (thn (hc pins s3 σ H3 _ I3 q3) fun w' s4 ⟨z', H4, I4, r4, q4⟩ => ho' pins s4 σ H4 y z' u w' Q I4 r2 r4 q4))
theorem line63 : (sizeLine : Nat) < 2 ^ 63 := by rw [sizeLine_eq]; decide
theorem op_add_str : OpR X (binaryOp .Add) (fun x y H Q => ∃ i j, x = .str i /\ y = .str j /\ i.length + j.length <= sizeLine /\ Q (.str (i ++ j)) H) := by
  intro pins s σ H x y v u Q I rx ry h
  obtain ⟨i, j, rfl, rfl, hz, q⟩ := h
  obtain ⟨t, rfl⟩ := rx
  obtain ⟨t', rfl⟩ := ry
  exact add_str (fun t' tk => ⟨.str (i ++ j), H, I.tok _, ⟨_, rfl⟩, q⟩) hz
theorem vals1 {x : V} {us : List Value} (r : Vals [x] us) : ∃ u, us = [u] /\ RelV x u := by
  cases r with
  | cons r1 r2 => cases r2; exact ⟨_, rfl, r1⟩
theorem vals2 {x y : V} {us : List Value} (r : Vals [x, y] us) : ∃ u w', us = [u, w'] /\ RelV x u /\ RelV y w' := by
  cases r with
  | cons r1 r2 =>
    cases r2 with
    | cons r3 r4 => cases r4; exact ⟨_, _, rfl, r1, r3⟩
theorem call_max2 (hc : X.calm = true) : CallR X (.builtin "max") (fun xs H Q => ∃ i j, xs = [.int i, .int j] /\ Q (.int (if j > i then j else i)) H) := by
  intro pins s σ H xs us Q I r h
  obtain ⟨i, j, rfl, q⟩ := h
  obtain ⟨u, w', rfl, ⟨t, rfl⟩, ⟨t', rfl⟩⟩ := vals2 r
  refine max_two_ints (I.ok.hd hc) fun h' tk k => ⟨_, H, I.kept k, ?_, q⟩
  by_cases hj : j > i
  · rw [if_pos hj, if_pos hj]; exact ⟨_, rfl⟩
  · rw [if_neg hj, if_neg hj]; exact ⟨_, rfl⟩
theorem call_min2 (hc : X.calm = true) : CallR X (.builtin "min") (fun xs H Q => ∃ i j, xs = [.int i, .int j] /\ Q (.int (if j < i then j else i)) H) := by
  intro pins s σ H xs us Q I r h
  obtain ⟨i, j, rfl, q⟩ := h
  obtain ⟨u, w', rfl, ⟨t, rfl⟩, ⟨t', rfl⟩⟩ := vals2 r
  refine min_two_ints (I.ok.hd hc) fun h' tk k => ⟨_, H, I.kept k, ?_, q⟩
  by_cases hj : j < i
  · rw [if_pos hj, if_pos hj]; exact ⟨_, rfl⟩
  · rw [if_neg hj, if_neg hj]; exact ⟨_, rfl⟩
theorem call_int1 : CallR X (.type "int") (fun xs H Q => (∃ i, xs = [.int i] /\ Q (.int i) H) \/ ∃ k, xs = [.bl k] /\ Q (.int (if k then 1 else 0)) H) := by
  intro pins s σ H xs us Q I r h
  rcases h with ⟨i, rfl, q⟩ | ⟨k, rfl, q⟩
  · obtain ⟨u, rfl, t, rfl⟩ := vals1 r
    exact call_int_int ⟨.int i, H, I, ⟨_, rfl⟩, q⟩
  · obtain ⟨u, rfl, r1⟩ := vals1 r
    cases r1
    exact call_int_bool ⟨.int (if k then 1 else 0), H, I.tok _, ⟨_, rfl⟩, q⟩
theorem call_str_int : CallR X (.type "str") (fun xs H Q => ∃ i, xs = [.int i] /\ i.natAbs.log2 < 1920 /\ Q (.str (toString i)) H) := by
  intro pins s σ H xs us Q I r h
  obtain ⟨i, rfl, hz, q⟩ := h
  obtain ⟨u, rfl, t, rfl⟩ := vals1 r
  exact PySem.P.str_of_int hz ⟨.str _, H, I.tok _, ⟨_, rfl⟩, q⟩
end
end L2
namespace L2
open PySem PySem.Spec PyProof.Rows
structure ObjM (h : Heap) (x dx C : Addr) (mA : Str -> Option Value) : Prop where
  obj : h.get? x = some (PySem.W.instObj C dx)
  ns : h.Ns1 dx mA
  ne : dx ≠ x
theorem lookIn_ns {h : Heap} {dx : Addr} {mA : Str -> Option Value} (n : h.Ns1 dx mA) : ∃ od, h.get? dx = some od /\ ∀ name, PySem.W.lookIn name od = some (mA name) := by
  obtain ⟨o, es, ep, ho, hd, hk, _, hm⟩ := n
  refine ⟨o, ho, fun name => ?_⟩
  have e := hm name
  unfold nsFind findBy at e
  rw [<- Array.find?_toList] at e
  unfold PySem.W.lookIn
  rw [hd]
  dsimp only
  split
  · rename_i y q
    rw [q] at e
    exact congrArg some e
  · rename_i q
    rw [q] at e
    have a : es.toList.any (·.refKey) = false := by
      rw [List.any_eq_false]
      intro y hy
      obtain ⟨z, t, hkey⟩ := hk y (Array.mem_toList_iff.mp hy)
      simp [DictEntry.refKey, hkey]
    have a' : ¬ es.toList.any (·.refKey) = true := by rw [a]; exact Bool.false_ne_true
    rw [if_neg a']
    exact congrArg some e
theorem ObjM.look {h : Heap} {x dx C : Addr} {mA : Str -> Option Value} (I : ObjM h x dx C mA) : ∃ od, PySem.W.InstAt h x (PySem.W.instObj C dx) C (some od) /\ ∀ name, PySem.W.lookIn name od = some (mA name) :=
  let ⟨od, ho, hl⟩ := lookIn_ns I.ns
  ⟨od, ⟨I.obj, rfl, rfl, ho⟩, hl⟩
section
variable {prog : Program} {w : World} {A : Around} {E : Value -> Shared -> Prop} {s : Shared} {K : PySem.W.Frag} {x dx C f : Addr} {mA : Str -> Option Value} {name : Str} {v : Value}
end
theorem RelO.some_of {v : V} {o : Option Value} (r : RelO (some v) o) : ∃ u, o = some u /\ RelV v u := by
  cases o with
  | none => exact (show False from r).elim
  | some u => exact ⟨u, rfl, r⟩
section
variable {P : Program} {w : World} {H H' : Hp} {h h' : Heap} {a C dx : Addr} {fs fs' : List (Str × V)}
theorem ins_get (hok : HOk P w H h) (e : H a = some (.ins C dx fs)) : ∃ mA, ObjM h a dx C mA /\ (∀ f, RelO (fs.lookup f) (mA f)) /\ PySem.Within mA (fs.map (·.1)) /\ fs.length <= 1000 /\ H dx = some (.own a) := by
  obtain ⟨d, z, ne, ob, mA, n, r, q⟩ := (show ObjOk P w H h a (.ins C dx fs) from hok a _ e)
  exact ⟨mA, ⟨ob, n, ne⟩, r, q, z, d⟩
end
structure Cls (K : PySem.W.Frag) (C : Addr) : Prop where
  pg : PySem.W.plainGet K C Str.empty = true
  hd : PySem.W.hasDictIn K C = true
  po : PySem.W.plainOver K C = true
  sa : PySem.W.findIn K (.ref C) "__setattr__" = some (some (.builtin "object.__setattr__"))
theorem Cls.get {K : PySem.W.Frag} {C : Addr} (c : Cls K C) (f : Str) : PySem.W.plainGet K C f = true := c.pg
structure Con (K : PySem.W.Frag) (C : Addr) (f : Str) (v : V) (u : Value) : Prop where
  at_ : PySem.W.findIn K (.ref C) f = some (some u)
  rel : RelV v u
  get : PySem.W.specialIn K u "__get__" = some none
  cp : PySem.W.copiedNames.contains f = false
structure Meth (K : PySem.W.Frag) (C : Addr) (m : Str) (f : Addr) : Prop where
  at_ : PySem.W.findIn K (.ref C) m = some (some (.ref f))
  fn : PySem.W.isFn K (.ref f) = true
  kp : PySem.W.keepIn K (.ref f) = true
section
variable {X : Cx} {pins : List (Addr × Obj)} {σ : St} {H : Hp} {s : Shared} {a C dx : Addr} {fs : List (Str × V)} {f : Str} {v : V} {A : Around} {E : Value -> Shared -> Prop}
end
section
variable {X : Cx} {o e value : Expr} {f : Str} {pos pos' tpos : Pos} {ta tv : TE}
end
section
variable {X : Cx} {pins : List (Addr × Obj)} {σ : St} {H : Hp} {s : Shared} {A : Around} {E : Value -> Shared -> Prop} {Q : Value -> Shared -> Prop} {c : Value} {b : Bool}
inductive TyOf (K : PySem.W.Frag) (H : Hp) : V -> Value -> Prop where
  | non : TyOf K H .non (.type "NoneType")
  | bl (x : Bool) : TyOf K H (.bl x) (.type "bool")
  | int (i : Int) : TyOf K H (.int i) (.type "int")
  | str (x : Str) : TyOf K H (.str x) (.type "str")
  | flt (x : UInt64) : TyOf K H (.flt x) (.type "float")
  | lst {a : Addr} {xs : List V} (e : H a = some (.lst xs)) : TyOf K H (.ref a) (.type "list")
  | frz {a : Addr} {o : Obj} {xs : List V} (e : H a = some (.frz o (.lst xs))) : TyOf K H (.ref a) (.type "list")
  | tup {a : Addr} {xs : List V} (e : H a = some (.tup xs)) : TyOf K H (.ref a) (.type "tuple")
  | dK {a : Addr} {kvs : List (Key × V)} (e : H a = some (.dK kvs)) : TyOf K H (.ref a) (.type "dict")
  | dT {a : Addr} {kvs : List (List Key × V)} (e : H a = some (.dT kvs)) : TyOf K H (.ref a) (.type "dict")
  | ins {a C dx : Addr} {fs : List (Str × V)} (e : H a = some (.ins C dx fs)) (cl : Cls K C) (ha : PySem.W.findIn K (.ref C) "__class__" = some (some (.builtin "object.__class__")))
      (hn : PySem.W.specialIn K (.builtin "object.__class__") "__get__" = some (some (.builtin "getset_descriptor.__get__"))) (htk : PySem.W.takesIn K (.builtin "object.__class__") = some true)
      (hm : PySem.W.mroIn K C (.type "object") = some true) : TyOf K H (.ref a) (.ref C)
theorem isinst_ok {x : V} {u t : Value} (I : Inv X pins σ H s) (rx : RelV x u) (ty : TyOf X.K H x t) (e : PySem.W.kitOne X.K t c = some b) (h : ∀ tk, Q (.bool b) { s with toks := tk }) :
    wpAny (model X.prog X.w) A (call (.builtin "isinstance") [u, c]) Q E s := by
  cases ty with
  | non => cases (show u = Value.none from rx); exact PySem.W.kia_one PySem.W.kitx_none I.kIn True.intro e (fun z => nomatch z) h
  | bl y => cases (show u = Value.bool y from rx); exact PySem.W.kia_one PySem.W.kitx_bool I.kIn True.intro e (fun z => nomatch z) h
  | int i => obtain ⟨t, q⟩ := (show ∃ t, u = Value.int i t from rx); cases q; exact PySem.W.kia_one PySem.W.kitx_int I.kIn True.intro e (fun z => nomatch z) h
  | str y => obtain ⟨t, q⟩ := (show ∃ t, u = Value.str y t from rx); cases q; exact PySem.W.kia_one PySem.W.kitx_str I.kIn True.intro e (fun z => nomatch z) h
  | flt y => obtain ⟨t, q⟩ := (show ∃ t, u = Value.float y t from rx); cases q; exact PySem.W.kia_one PySem.W.kitx_float I.kIn True.intro e (fun z => nomatch z) h
  | @lst a xs ea =>
    cases (show u = Value.ref a from rx)
    obtain ⟨_, _, n, _, h1⟩ := (show ObjOk X.prog X.w H s.heap a (.lst xs) from I.hok a _ ea)
    exact PySem.W.kia_one PySem.W.kitx_list I.kIn ⟨_, h1, rfl⟩ e (fun z => nomatch z) h
  | @frz a ob xs ea =>
    cases (show u = Value.ref a from rx)
    obtain ⟨_, _, _, n, _, h1⟩ := (show ObjOk X.prog X.w H s.heap a (.frz ob (.lst xs)) from I.hok a _ ea)
    exact PySem.W.kia_one PySem.W.kitx_list I.kIn ⟨_, h1, rfl⟩ e (fun z => nomatch z) h
  | @tup a xs ea =>
    cases (show u = Value.ref a from rx)
    obtain ⟨_, _, _, p⟩ := (show ObjOk X.prog X.w H s.heap a (.tup xs) from I.hok a _ ea)
    obtain ⟨o, h1, h2, _⟩ := p
    exact PySem.W.kia_one PySem.W.kitx_tuple I.kIn ⟨o, h1, h2⟩ e (fun z => nomatch z) h
  | @dK a kvs ea =>
    cases (show u = Value.ref a from rx)
    obtain ⟨_, _, vs, _, p⟩ := (show ObjOk X.prog X.w H s.heap a (.dK kvs) from I.hok a _ ea)
    obtain ⟨o, es, ep, h1, h2, _⟩ := p
    exact PySem.W.kia_one PySem.W.kitx_dict I.kIn ⟨o, h1, h2.1⟩ e (fun z => nomatch z) h
  | @dT a kvs ea =>
    cases (show u = Value.ref a from rx)
    obtain ⟨_, _, xs, _, o, es, ep, h1, h2, _⟩ := (show ObjOk X.prog X.w H s.heap a (.dT kvs) from I.hok a _ ea)
    exact PySem.W.kia_one PySem.W.kitx_dict I.kIn ⟨o, h1, h2.1⟩ e (fun z => nomatch z) h
  | @ins a C dx fs ea cl ha hn htk hm =>
    cases (show u = Value.ref a from rx)
    obtain ⟨mA, O, _⟩ := ins_get I.hok ea
    obtain ⟨od, J, _⟩ := O.look
    exact PySem.W.kia_one (PySem.W.kitx_own (cl.get _) cl.hd ha hn htk hm) I.kIn J e (fun z => nomatch z) h
end
end L2
namespace L2
open PySem PySem.Spec PyProof.Rows
structure Room (k : Nat) (A : Around) : Prop where
  hd : A.handled = none
  dp : A.depth + 3 * k + 5 < recursionLimit
  un : A.units + 16 * k + 200 < cLine
  gd : A.guards = some []
theorem Room.mono {j k : Nat} {A : Around} (r : Room k A) (h : j <= k) : Room j A := ⟨r.hd, by have := r.dp; omega, by have := r.un; omega, r.gd⟩
theorem Room.deeper {k : Nat} {A : Around} (r : Room (k + 1) A) (env : Env) : Room k (A.deeper env) :=
  ⟨r.hd, by have := r.dp; show A.depth + 1 + 3 * k + 5 < _; omega, by have := r.un; show A.units + 3 + 16 * k + 200 < _; omega, r.gd⟩
theorem Room.depth {k : Nat} {A : Around} (r : Room k A) : A.depth < recursionLimit := by have := r.dp; omega
theorem Room.units {k : Nat} {A : Around} (r : Room k A) : A.units + 64 < cLine := by have := r.un; omega
noncomputable def tNil : TA := fun _ H Q => Q [] H
noncomputable def tCons (ta : TE) (tr : TA) : TA := fun σ H Q => ta σ H fun x H1 => tr σ H1 fun xs H2 => Q (x :: xs) H2
section
variable {X : Cx} {e : Expr} {es : List Expr} {te : TE} {t : TA} {pos : Pos}
theorem pa_nil : PA X [] tNil := fun _ _ _ _ H Q I h => Calls.spliced_nil ⟨[], H, I, .nil, h⟩
theorem pa_cons (ha : PE X e te) (hr : PA X es t) (hs : starEach (e :: es) X.env = (false, eval e X.env) :: starEach es X.env := by rfl) : PA X (e :: es) (tCons te t) := by
  intro pos pins s σ H Q I h
  rw [hs]
  show wpAny _ _ (spliced ((false, eval e X.env) :: backTo pos (starEach es X.env))) _ _ s
  refine Calls.spliced_cons (thn (ha pins s σ H _ I h) fun u s1 ⟨x, H1, I1, r1, q1⟩ => ?_)
  exact thn (hr pos pins s1 σ H1 _ I1 q1) fun us s2 ⟨xs, H2, I2, r2, q2⟩ => ⟨x :: xs, H2, I2, .cons r1 r2, q2⟩
noncomputable def tTup (t : TA) : TE := fun σ H Q => t σ H fun xs H1 => xs.length <= sizeLine /\ ∀ p, H1 p = none -> Q (.ref p) (upd H1 p (.tup xs))
noncomputable def tLst (t : TA) : TE := fun σ H Q => t σ H fun xs H1 => xs.length <= sizeLine /\ ∀ p, H1 p = none -> Q (.ref p) (upd H1 p (.lst xs))
theorem pe_tup {x1} (h : PA X es t) : PE X (.Tuple es x1 pos) (tTup t) := by
  intro pins s σ H Q I hq
  refine wpAny_Tuple_spliced (thn (h pos pins s σ H _ I hq) fun us s1 ⟨xs, H1, I1, r, z, q⟩ => ⟨by rw [<- r.length]; exact z, ?_⟩)
  have hf : H1 s1.heap.objs.size = none := I1.hok.fresh (Nat.le_refl _)
  refine ⟨.ref s1.heap.objs.size, upd H1 s1.heap.objs.size (.tup xs), I1.laid (t' := s1.toks) (fun b u e => Heap.get?_push_of_some _ e) (Nat.le_refl _) ?_, rfl, q _ hf⟩
  exact ⟨z, us, r, ⟨_, Heap.get?_push_size _ rfl, rfl, _, rfl⟩⟩
theorem pe_lst (h : PA X es t) : PE X (.List es pos) (tLst t) := by
  intro pins s σ H Q I hq
  refine wpAny_List_spliced (thn (h pos pins s σ H _ I hq) fun us s1 ⟨xs, H1, I1, r, z, q⟩ => ⟨by rw [<- r.length]; exact z, ?_⟩)
  have hf : H1 s1.heap.objs.size = none := I1.hok.fresh (Nat.le_refl _)
  refine ⟨.ref s1.heap.objs.size, upd H1 s1.heap.objs.size (.lst xs), I1.laid (t' := s1.toks) (fun b u e => Heap.get?_push_of_some _ e) (Nat.le_refl _) ?_, rfl, q _ hf⟩
  exact ⟨z, us, 0, r, Heap.get?_push_size _ rfl⟩
end
noncomputable abbrev Sp := List V -> Hp -> VK -> XK -> Prop
noncomputable abbrev CXT := List Env -> Hp -> Shared -> XK -> Value -> Shared -> Prop
structure Env0 (P : Program) (w : World) (K : PySem.W.Frag) (mg : Str -> Option Value) (base : Heap) (A : Around) (outer : List Env) (s : Shared) (H : Hp) : Prop where
  frames : A.frames = some outer
  mod : Mod K mg base
  bs : ∀ b o, base.get? b = some o -> s.heap.get? b = some o /\ H b = none
  bsz : base.objs.size <= s.heap.objs.size
  funs : s.heap.FunFrames base outer
  frf : ∀ b ∈ frs outer, H b = none
  hok : HOk P w H s.heap
  bare : AllBare s.gens
noncomputable def CE (outer : List Env) (P : Program) (w : World) (H : Hp) (s : Shared) (Q : VK) (u : Value) (s' : Shared) : Prop :=
  ∃ v H', s'.os = s.os /\ AllBare s'.gens /\ Un (frs outer) [] H H' s.heap s'.heap /\ HOk P w H' s'.heap /\ RelV v u /\ Q v H'
noncomputable def CR (CX : CXT) (outer : List Env) (P : Program) (w : World) (H : Hp) (s : Shared) (Q : VK) (E : XK) (r : Result) (s' : Shared) : Prop :=
  match r with
  | .ok (.ret u) => CE outer P w H s Q u s'
  | .ok _ => False
  | .error e => CX outer H s E e s'
structure FnOk (P : Program) (w : World) (K : PySem.W.Frag) (mg : Str -> Option Value) (base : Heap) (CX : CXT) (k : Nat) (f : Addr) (fd : FuncData) (ps : List Str) (sp : Sp) : Prop where
  len : ∀ vs H Q E, sp vs H Q E -> vs.length = ps.length
  run : ∀ (A : Around) (outer : List Env) (s : Shared) (H : Hp) (args : Args) (us : List Value) (vs : List V) (Q : VK) (E : XK), Room k A -> Env0 P w K mg base A outer s H -> BindsTo s fd args (ps.zip us) -> Vals vs us -> sp vs H Q E ->
    codeAny (model P w) A (.call (.ref f) args) (CR CX outer P w H s Q E) s
section
variable {X : Cx} {pins : List (Addr × Obj)} {σ : St} {H : Hp} {s s' : Shared}
theorem Inv.env0 (I : Inv X pins σ H s) : Env0 X.prog X.w X.K X.mg X.base X.A X.stack s H :=
  ⟨I.ok.frames, I.ok.mod, I.bs, Nat.le_trans I.ok.bsz I.sz, I.stack, I.stkFree, I.hok, I.bare⟩
theorem Inv.after {Q : VK} {u : Value} (I : Inv X pins σ H s) (h : CE X.stack X.prog X.w H s Q u s') : EP X pins σ Q u s' := by
  obtain ⟨v, H', os, bare, un, hok, r, q⟩ := h
  obtain ⟨hh, g, d, t, os'⟩ := s'
  obtain rfl : os' = s.os := os
  exact ⟨v, H', I.call (h' := hh) (g' := g) (d' := d) (t' := t) (ch := []) un hok bare (fun b z => absurd z (by simp)), r, q⟩
end
noncomputable def tCall (sp : Sp) (dvs : List V) (E : XK) (t : TA) : TE := fun σ H Q => t σ H fun vs H1 => sp (vs ++ dvs) H1 Q E
noncomputable def Binds (K : PySem.W.Frag) (fd : FuncData) (ps : List Str) (ds : List Value) : Prop :=
  ∀ (s : Shared) (us : List Value), K.In s.heap -> (us ++ ds).length = ps.length -> BindsTo s fd ⟨us, []⟩ (ps.zip (us ++ ds))
theorem Binds.all {K : PySem.W.Frag} {fd : FuncData} {ps : List Str} (h : ∀ us : List Value, us.length = ps.length -> bindArgs fd ⟨us, []⟩ = pure (ps.zip us)) : Binds K fd ps [] := fun s us _ hl => by
  rw [List.append_nil] at hl ⊢
  exact .of_eq (h us hl)
noncomputable def Passes (CX : CXT) (X : Cx) (E : XK) : Prop := ∀ (pins : List (Addr × Obj)) (σ : St) (H : Hp) (s : Shared) (e : Value) (s' : Shared), Inv X pins σ H s -> CX X.stack H s E e s' -> X.xe e s'
section
variable {X : Cx} {CX : CXT} {k : Nat} {f C : Addr} {fd : FuncData} {ps : List Str} {sp : Sp} {dvs : List V} {ds : List Value} {E : XK} {x m : Str} {p pos apos : Pos} {e o : Expr} {es : List Expr} {ta : TE} {t : TA}
theorem run_fn {pins : List (Addr × Obj)} {σ : St} {H : Hp} {s : Shared} {Q : VK} {us : List Value} {vs : List V} (F : FnOk X.prog X.w X.K X.mg X.base CX k f fd ps sp) (hr : Room k X.A) (hb : Binds X.K fd ps ds) (hd : Vals dvs ds) (hx : Passes CX X E)
    (I : Inv X pins σ H s) (r : Vals vs us) (h : sp (vs ++ dvs) H Q E) : wpAny (model X.prog X.w) X.A (call (.ref f) us) (EP X pins σ Q) X.xe s := by
  have r2 : Vals (vs ++ dvs) (us ++ ds) := r.append hd
  have hl : (us ++ ds).length = ps.length := by rw [<- r2.length]; exact F.len _ _ _ _ h
  refine wpAny_call (codeAny_mono (F.run X.A X.stack s H ⟨us, []⟩ (us ++ ds) (vs ++ dvs) Q E hr I.env0 (hb s us I.kIn hl) r2 h) fun r s' hq => ?_)
  cases r with
  | error e => exact hx pins σ H s e s' I hq
  | ok fl =>
    cases fl with
    | ret u => exact I.after hq
    | next => exact False.elim hq
    | brk => exact False.elim hq
    | cont => exact False.elim hq
theorem pe_call (F : FnOk X.prog X.w X.K X.mg X.base CX k f fd ps sp) (hr : Room k X.A) (hg : Gl X x) (hm : X.mg x = some (.ref f)) (hk : PySem.W.keepIn X.K (.ref f) = true) (hb : Binds X.K fd ps ds) (hd : Vals dvs ds) (hx : Passes CX X E)
    (ha : PA X (e :: es) t) (hdb : (x == ("__debug__" : Str)) = false := by decide) (he : starEach (e :: es) X.env = (false, eval e X.env) :: starEach es X.env := by rfl) (hpl : (backTo pos (starEach es X.env)).any (·.1) = false := by rfl) :
    PE X (.Call (.Name x p) (e :: es) [] pos) (tCall sp dvs E t) := by
  intro pins s σ H Q I h
  refine wpAny_Call_Name_kw (ld_glob I hg hm ?_ hdb)
  refine PySem.W.callWith_K (h₀ := X.base) I.ok.mod.kin hk (thn (ha pos pins s σ H _ I h) fun us s1 ⟨vs, H1, I1, r, q⟩ => ⟨I1.kIn, ?_⟩) he hpl
  exact run_fn F hr hb hd hx I1 r q
structure Mk (K : PySem.W.Frag) (C f : Addr) : Prop where
  makes : PySem.W.makesIn K C = true
  init : PySem.W.findIn K (.ref C) "__init__" = some (some (.ref f))
  fn : PySem.W.isFn K (.ref f) = true
  kp : PySem.W.keepIn K (.ref C) = true
end
section
variable {X : Cx} {CX : CXT} {k : Nat} {f C : Addr} {fd : FuncData} {ps ks : List Str} {sp : Sp} {E : XK} {x m : Str} {p pos apos kpos : Pos} {e o : Expr} {es : List Expr} {kws : List Keyword} {te ta : TE} {t tk : TA} {nm : Option Str}
structure KBinds (K : PySem.W.Frag) (fd : FuncData) (ps ks : List Str) (g : List Value -> List Value -> List Value) (gV : List V -> List V -> List V) : Prop where
  to : ∀ (s : Shared) (us ws : List Value), K.In s.heap -> (g us ws).length = ps.length -> BindsTo s fd ⟨us, ks.zip ws⟩ (ps.zip (g us ws))
  rel : ∀ {vs : List V} {us : List Value} {zs : List V} {ws : List Value}, Vals vs us -> Vals zs ws -> Vals (gV vs zs) (g us ws)
variable {g : List Value -> List Value -> List Value} {gV : List V -> List V -> List V}
end
structure FnScope (N P : List Str) (sc : Scope) : Prop where
  kind : sc.kind = .function
  co : sc.isCoroutine = false
  gen : sc.isGenerator = false
  nd : N.Nodup
  pre : N.take P.length = P
  par : ∀ x ∈ P, sc.names.lookup x = some .local \/ sc.names.lookup x = some .cell
  nofree : ∀ y ∈ sc.names, y.2 ≠ .free
theorem bindL_out {kindOf : Str -> Option NameKind} {x : Str} : ∀ {binds : List (Str × Value)} {m : Str -> Option Value}, (∀ v, (x, v) ∉ binds) -> bindL kindOf binds m x = m x
  | [], _, _ => rfl
  | (n, v) :: r, m, h => by
    unfold bindL
    rw [bindL_out fun w hw => h w (List.mem_cons_of_mem _ hw)]
    split
    · have : x ≠ n := by rintro rfl; exact h v List.mem_cons_self
      simp [this]
    · rfl
theorem bindC_out {kindOf : Str -> Option NameKind} {x : Str} : ∀ {binds : List (Str × Value)} {m : Str -> Option Value}, (∀ v, (x, v) ∉ binds) -> bindC kindOf binds m x = m x
  | [], _, _ => rfl
  | (n, v) :: r, m, h => by
    unfold bindC
    rw [bindC_out fun w hw => h w (List.mem_cons_of_mem _ hw)]
    split
    · rfl
    · have : x ≠ n := by rintro rfl; exact h v List.mem_cons_self
      simp [this]
theorem bindL_get {kindOf : Str -> Option NameKind} {x : Str} {v : Value} : ∀ {P : List Str} {vs : List Value} {i : Nat} {m : Str -> Option Value}, P.Nodup -> P[i]? = some x -> vs[i]? = some v -> kindOf x = some .local ->
    bindL kindOf (P.zip vs) m x = some v
  | [], _, _, _, _, h, _, _ => by simp at h
  | _ :: _, [], _, _, _, _, h, _ => by simp at h
  | p :: P, w :: vs, 0, m, nd, h1, h2, hk => by
    simp at h1 h2; subst h1; subst h2
    show bindL kindOf ((p, w) :: P.zip vs) m p = _
    unfold bindL
    rw [bindL_out fun v hv => (List.nodup_cons.mp nd).1 (List.of_mem_zip hv).1, if_pos hk]
    simp
  | p :: P, w :: vs, i + 1, m, nd, h1, h2, hk => by
    show bindL kindOf ((p, w) :: P.zip vs) m x = _
    unfold bindL
    exact bindL_get (i := i) (List.nodup_cons.mp nd).2 (by simpa using h1) (by simpa using h2) hk
theorem bindC_get {kindOf : Str -> Option NameKind} {x : Str} {v : Value} : ∀ {P : List Str} {vs : List Value} {i : Nat} {m : Str -> Option Value}, P.Nodup -> P[i]? = some x -> vs[i]? = some v -> kindOf x ≠ some .local ->
    bindC kindOf (P.zip vs) m x = some v
  | [], _, _, _, _, h, _, _ => by simp at h
  | _ :: _, [], _, _, _, _, h, _ => by simp at h
  | p :: P, w :: vs, 0, m, nd, h1, h2, hk => by
    simp at h1 h2; subst h1; subst h2
    show bindC kindOf ((p, w) :: P.zip vs) m p = _
    unfold bindC
    rw [bindC_out fun v hv => (List.nodup_cons.mp nd).1 (List.of_mem_zip hv).1, if_neg hk]
    simp
  | p :: P, w :: vs, i + 1, m, nd, h1, h2, hk => by
    show bindC kindOf ((p, w) :: P.zip vs) m x = _
    unfold bindC
    exact bindC_get (i := i) (List.nodup_cons.mp nd).2 (by simpa using h1) (by simpa using h2) hk
noncomputable def start (N : List Str) (vs : List V) : St := vs.map some ++ List.replicate (N.length - vs.length) none
noncomputable def cxOf (CX : CXT) (P : Program) (w : World) (K : PySem.W.Frag) (mg : Str -> Option Value) (base : Heap) (N : List Str) (qual : Str) (scope : Scope) (f : Addr) (cd : Value) (A : Around) (outer : List Env) (s : Shared) (H : Hp) (E : XK) : Cx where
  prog := P
  w := w
  K := K
  mg := mg
  base := base
  A := A.deeper (envOfC qual scope s.heap.objs.size f cd)
  N := N
  s₀ := s
  H₀ := H
  env := envOfC qual scope s.heap.objs.size f cd
  outer := outer
  stack := envOfC qual scope s.heap.objs.size f cd :: outer
  ex := []
  calm := true
  fn := fun _ => true
  pn := []
  xe := fun e s' => wpAny (model P w) (A.deeper (envOfC qual scope s.heap.objs.size f cd)) (leaving (envOfC qual scope s.heap.objs.size f cd) e) (fun _ s'' => CX outer H s E e s'') (fun e' s'' => CX outer H s E e' s'') s'
theorem cell_has {sc : Scope} {n : Nat} {x : Str} (h : sc.names.lookup x = some .cell) : ∃ c, (cellsFrom n sc.names []).lookup x = some c := by
  have q := PySem.W.cellsFrom_some sc.names n [] (.inl h)
  exact Option.isSome_iff_exists.mp q
theorem inv_start {CX : CXT} {P : Program} {w : World} {K : PySem.W.Frag} {mg : Str -> Option Value} {base : Heap} {N ps : List Str} {qual : Str} {scope : Scope} {f : Addr} {cd : Value} {A : Around} {outer : List Env} {s s1 : Shared} {H : Hp} {E : XK} {us : List Value} {vs : List V}
    (S : FnScope N ps scope) (hd : A.handled = none) (e0 : Env0 P w K mg base A outer s H) (hl : vs.length = ps.length) (r : Vals vs us)
    (x : InCallC s s.heap.objs.size (bindL (envOfC qual scope s.heap.objs.size f cd).kindOf (ps.zip us) fun _ => none) (cellsFrom (s.heap.objs.size + 1) scope.names []) (bindC (envOfC qual scope s.heap.objs.size f cd).kindOf (ps.zip us) fun _ => none) s1) :
    Inv (cxOf CX P w K mg base N qual scope f cd A outer s H E) [] (start N vs) H s1 := by
  have hpl : ps.length <= N.length := by have := congrArg List.length S.pre; rw [List.length_take] at this; omega
  obtain ⟨h1, tk, rfl, hk⟩ := x.done
  have noA : ∀ b : Addr, b ∉ (cxOf CX P w K mg base N qual scope f cd A outer s H E).ex := fun b z => absurd (show b ∈ ([] : List Addr) from z) (by simp)
  refine ⟨⟨e0.mod, S.kind, rfl, rfl, Nat.le_refl _, fun y z c h1 h2 => ?_, fun y hy => ?_, fun y c _ h => ?_, fun _ => hd, Around.frames_deeper e0.frames, .inr ⟨rfl, rfl⟩, fun b z => absurd z (noA b), e0.bs, e0.bsz, fun b _ _ => noA b, fun b z => absurd z (noA b), e0.funs, e0.frf⟩,
    rfl, e0.bare, Un.kept hk, ⟨_, x.toInCall.ns, fun i y v h1 h2 h3 => ?_⟩, fun y c h => ⟨_, x.cell y c h⟩, e0.hok.fresh (Nat.le_refl _), fun y c h => ?_, fun p hp => absurd (show p ∈ ([] : List (Addr × Obj)) from hp) (by simp), e0.hok.kept hk, ?_⟩
  · exact name_of_addr x.apart (PySem.mem_of_lookup h1) (PySem.mem_of_lookup h2)
  · have hy : scope.names.lookup y = some .cell \/ scope.names.lookup y = some .free := hy
    rcases hy with hy | hy
    · exact cell_has hy
    · exact absurd rfl (S.nofree _ (PySem.mem_of_lookup hy))
  · exact Nat.le_of_lt (x.above y c (PySem.mem_of_lookup h))
  · have hi : i < vs.length := by
      unfold start at h2
      by_cases hi : i < vs.length
      · exact hi
      · rw [List.getElem?_append_right (by simpa using hi)] at h2
        rw [List.getElem?_replicate] at h2
        split at h2 <;> cases h2
    have ha : vs[i]? = some v := by
      unfold start at h2
      rw [List.getElem?_append_left (by simpa using hi), List.getElem?_map] at h2
      cases e : vs[i]? with
      | none => rw [e] at h2; cases h2
      | some a => rw [e] at h2; cases h2; rfl
    obtain ⟨u, hu, rv⟩ := r.get ha
    have hp : ps[i]? = some y := by
      rw [<- S.pre, List.getElem?_take_of_lt (by omega)]; exact h1
    have ndP : ps.Nodup := by rw [<- S.pre]; exact S.nd.sublist (List.take_sublist _ _)
    refine ⟨u, rv, ?_⟩
    rcases S.par y (List.mem_of_getElem? hp) with k | k
    · exact .inl ⟨k, bindL_get ndP hp hu k⟩
    · obtain ⟨c, e⟩ := cell_has (n := s.heap.objs.size + 1) k
      refine .inr ⟨.inl k, c, e, ?_⟩
      have q := x.cell y c e
      rw [bindC_get ndP hp hu (by show scope.names.lookup y ≠ _; rw [k]; decide)] at q
      exact q
  · exact e0.hok.fresh (Nat.le_of_lt (x.above y c (PySem.mem_of_lookup h)))
  · unfold start
    show _ = N.length
    rw [List.length_append, List.length_map, List.length_replicate]
    omega
theorem fn_of {CX : CXT} {P : Program} {w : World} {K : PySem.W.Frag} {mg : Str -> Option Value} {base : Heap} {k : Nat} {f : Addr} {name qual : Str} {params : Arguments} {body : List Stmt} {scope : Scope} {dV kV doc pm cdv ct oc : Value} {an od : Option Addr}
    {osl : Array (Option Value)} {N ps : List Str} {sp : Sp} (lk : K.lookup f = some ⟨oc, od, .func (PySem.W.fnOf name qual params body scope dV kV doc pm an cdv ct), osl⟩) (hcd : PySem.W.codeIn K cdv qual = true) (S : FnScope N ps scope)
    (len : ∀ vs H Q E, sp vs H Q E -> vs.length = ps.length)
    (hbody : ∀ (A : Around) (outer : List Env) (s : Shared) (H : Hp) (vs : List V) (Q : VK) (E : XK), Room k (A.deeper (envOfC qual scope s.heap.objs.size f cdv)) -> sp vs H Q E ->
      ∃ t, PSs (cxOf CX P w K mg base N qual scope f cdv A outer s H E) body t /\ t { nx := fun _ H' => Q .non H', rt := Q } (start N vs) H) :
    FnOk P w K mg base CX (k + 1) f (PySem.W.fnOf name qual params body scope dV kV doc pm an cdv ct) ps sp := by
  refine ⟨len, fun A outer s H args us vs Q E hr e0 hb r hsp => ?_⟩
  have hl := len _ _ _ _ hsp
  have KX : K.In s.heap := e0.mod.kin.keeps fun b o e => (e0.bs b o e).1
  have lim : s.heap.NoLimit := e0.mod.nolimit.keeps fun b o e => (e0.bs b o e).1
  have hkind : ∀ y ∈ ps.zip us, scope.names.lookup y.1 = some .local \/ (scope.names.lookup y.1 = some .cell /\ ((cellsFrom (s.heap.objs.size + 1) scope.names []).lookup y.1).isSome = true) := fun ⟨n, v⟩ hy => by
    rcases S.par n (List.of_mem_zip hy).1 with q | q
    · exact .inl q
    · exact .inr ⟨q, PySem.W.cellsFrom_some _ _ _ (.inl q)⟩
  refine codeAny_call_function hr.depth (KX _ _ lk) rfl S.co S.gen rfl (PySem.W.codeRec_of KX hcd) (hb _ _ _ _ ?_)
  refine wpAny_newFunctionEnv_cells S.kind hkind fun env he s1 x => ?_
  subst he
  refine ⟨lim.keeps x.toInCall.keep, codeAny_func ?_⟩
  obtain ⟨t, ht, hq⟩ := hbody A outer s H vs Q E (hr.deeper _) hsp
  have I : Inv (cxOf CX P w K mg base N qual scope f cdv A outer s H E) [] (start N vs) H s1 := inv_start S hr.hd e0 hl r x
  refine wpAny_mono (ht [] s1 (start N vs) H _ I hq) (fun fl s' hs => ?_) fun e s' hs => hs
  have fin : ∀ {σ' : St} {H' : Hp} {v : V} {u : Value}, Inv (cxOf CX P w K mg base N qual scope f cdv A outer s H E) [] σ' H' s' -> RelV v u -> Q v H' -> CE outer P w H s Q u s' :=
    fun {σ' H' v u} J rv q => ⟨v, H', J.os, J.bare, J.base, J.hok, rv, q⟩
  cases fl with
  | ret u =>
    obtain ⟨v, σ', H', J, rv, q⟩ := hs
    exact fin J rv q
  | next =>
    obtain ⟨σ', H', J, q⟩ := hs
    exact fin (v := V.non) (u := Value.none) J rfl q
  | brk =>
    obtain ⟨_, _, _, q⟩ := hs
    exact False.elim q
  | cont =>
    obtain ⟨_, _, _, q⟩ := hs
    exact False.elim q
end L2
namespace L2
open PySem PySem.Spec PyProof.Rows
section
variable {X : Cx} {x : Str} {p pos : Pos} {e : Expr} {es : List Expr} {t : TA} {id T : String} {r : List V -> Hp -> VK -> Prop}
noncomputable def tCB (r : List V -> Hp -> VK -> Prop) (t : TA) : TE := fun σ H Q => t σ H fun vs H1 => r vs H1 Q
theorem pe_callB (hc : CallR X (.builtin id) r) (hg : Gl X x) (hm : X.mg x = none) (hv : bootBuiltins x = some (.builtin id)) (ha : PA X (e :: es) t) (hn : x ≠ "__name__" := by decide) (hdb : (x == ("__debug__" : Str)) = false := by decide)
    (he : starEach (e :: es) X.env = (false, eval e X.env) :: starEach es X.env := by rfl) (hpl : (backTo pos (starEach es X.env)).any (·.1) = false := by rfl) : PE X (.Call (.Name x p) (e :: es) [] pos) (tCB r t) := by
  intro pins s σ H Q I h
  refine wpAny_Call_Name_kw (ld_blt I hg hm hv ?_ hn hdb)
  exact PyProof.Rows.callWith_builtin1 (thn (ha pos pins s σ H _ I h) fun us s1 ⟨vs, H1, I1, r1, q1⟩ => hc pins s1 σ H1 vs us Q I1 r1 q1) he hpl
theorem pe_callTy (hc : CallR X (.type T) r) (hg : Gl X x) (hm : X.mg x = none) (hv : bootBuiltins x = some (.type T)) (ha : PA X (e :: es) t) (hn : x ≠ "__name__" := by decide) (hdb : (x == ("__debug__" : Str)) = false := by decide)
    (he : starEach (e :: es) X.env = (false, eval e X.env) :: starEach es X.env := by rfl) (hpl : (backTo pos (starEach es X.env)).any (·.1) = false := by rfl) : PE X (.Call (.Name x p) (e :: es) [] pos) (tCB r t) := by
  intro pins s σ H Q I h
  refine wpAny_Call_Name_kw (ld_blt I hg hm hv ?_ hn hdb)
  exact PyProof.Rows.callWith_type1 (thn (ha pos pins s σ H _ I h) fun us s1 ⟨vs, H1, I1, r1, q1⟩ => hc pins s1 σ H1 vs us Q I1 r1 q1) he hpl
end
end L2
namespace HT
open PySem PyProof.Rows
section
open PySem.SeqAt
open PySem.AutoSeq1 (wpAny_loadPart')
open PySem.MeetsSeq PySem.MeetsSeq2 PySem.MeetsSeq3
end
section
variable {prog : Program} {w : World} {A : Around} {E : Value -> Shared -> Prop} {s : Shared}
noncomputable def sIx (n d : Nat) : Option Int -> Nat
  | none => d
  | some v => if v < 0 then (v + (n : Int)).toNat else min v.toNat n
theorem sIx_none (n d : Nat) : sIx n d none = d := rfl
theorem sIx_nat (n d k : Nat) : sIx n d (some (k : Int)) = min k n := by
  show (if (k : Int) < 0 then ((k : Int) + (n : Int)).toNat else min (k : Int).toNat n) = min k n
  rw [if_neg (by omega), Int.toNat_natCast]
theorem sIx_le (n d : Nat) (hd : d <= n) (o : Option Int) : sIx n d o <= n := by
  cases o with
  | none => exact hd
  | some v =>
    show (if v < 0 then (v + (n : Int)).toNat else min v.toNat n) <= n
    by_cases hv : v < 0
    · rw [if_pos hv]; omega
    · rw [if_neg hv]; exact Nat.min_le_right _ _
theorem clip_eq (v : Int) (n d : Nat) : (if v < 0 then max (v + (n : Int)) 0 else min v (n : Int)) = ((sIx n d (some v) : Nat) : Int) := by
  show (if v < 0 then max (v + (n : Int)) 0 else min v (n : Int)) = (((if v < 0 then (v + (n : Int)).toNat else min v.toNat n) : Nat) : Int)
  by_cases hv : v < 0
  · simp only [if_pos hv]; omega
  · simp only [if_neg hv]; omega
theorem adjust_gen (lo hi : Option Int) (n : Nat) : Builtin.Slice.sliceAdjust lo hi 1 (n : Int) = (((sIx n 0 lo : Nat) : Int), ((sIx n n hi : Nat) : Int)) := by
  have h1 : ¬ ((1 : Int) < 0) := by omega
  unfold Builtin.Slice.sliceAdjust
  simp only [h1, if_false]
  refine Prod.ext ?_ ?_
  · cases lo with
    | none => rfl
    | some v => exact clip_eq v n 0
  · cases hi with
    | none => rfl
    | some v => exact clip_eq v n n
theorem places_gen (i j : Nat) : Builtin.Slice.slicePlaces (i : Int) (j : Int) 1 = j - i := by
  unfold Builtin.Slice.slicePlaces
  have h1 : (1 : Int) > 0 := by omega
  simp only [h1, if_true, Int.ediv_one]
  split <;> omega
theorem slicePart_ {v : Value} {o : Option Int} {Q : Option Int -> Shared -> Prop} (p : IsPart v o) (h : Q o s) : wpAny (model prog w) A (Builtin.Slice.slicePartIndex v) Q E s := by
  cases p with
  | none => exact slicePart_none h
  | int i t => exact slicePart_int h
theorem sliceApplied_gen {sl : Addr} {vl vu : Value} {lo hi : Option Int} {n : Nat} {Q : Int × Int × Nat -> Shared -> Prop} (hs : s.heap.IsSliceOf sl vl vu .none) (pl : IsPart vl lo) (pu : IsPart vu hi)
    (h : Q (((sIx n 0 lo : Nat) : Int), 1, sIx n n hi - sIx n 0 lo) s) : wpAny (model prog w) A (Builtin.Slice.sliceApplied (.ref sl) (pure (n : Int))) Q E s := by
  obtain ⟨os, hos, hcs, hds⟩ := id hs
  unfold Builtin.Slice.sliceApplied Builtin.Slice.sliceFields
  refine wpAny_bind (wpAny_bind (wpAny_field hos hds (x := vl) rfl (wpAny_bind (wpAny_field hos hds (x := vu) rfl (wpAny_bind (wpAny_field hos hds (x := .none) rfl (wpAny_pure ?_)))))))
  refine wpAny_bind (slicePart_none ?_)
  show wpAny _ _ (if ((1 : Int) == 0) = true then _ else _) _ _ s
  rw [if_neg (by decide)]
  refine wpAny_bind (slicePart_ pl (wpAny_bind (slicePart_ pu (wpAny_bind (wpAny_pure ?_)))))
  show wpAny _ _ (match Builtin.Slice.sliceAdjust lo hi 1 (n : Int) with | (lo, hi) => pure (lo, (1 : Int), Builtin.Slice.slicePlaces lo hi 1)) _ _ s
  rw [adjust_gen lo hi n]
  show wpAny _ _ (pure (((sIx n 0 lo : Nat) : Int), (1 : Int), Builtin.Slice.slicePlaces ((sIx n 0 lo : Nat) : Int) ((sIx n n hi : Nat) : Int) 1)) _ _ s
  rw [places_gen]
  exact wpAny_pure h
theorem pick_gen (xs : Array Value) (i k : Nat) : ((List.range k).filterMap fun (m : Nat) => xs[((i : Int) + (m : Int) * 1).toNat]?).toArray = ((xs.toList.drop i).take k).toArray := by
  have e : (fun (m : Nat) => xs[((i : Int) + (m : Int) * 1).toNat]?) = fun m => xs[i + m]? := by
    funext m
    have : ((i : Int) + (m : Int) * 1).toNat = i + m := by omega
    rw [this]
  rw [e]
  have := pick_run xs i k
  rw [List.filterMap_map] at this
  have e2 : ((fun x => xs[x]?) ∘ fun x => i + x) = fun m => xs[i + m]? := rfl
  rw [e2] at this
  rw [this]
theorem getItem_tuple_cut {t sl : Addr} {items : Array Value} {vl vu : Value} {lo hi : Option Int} {Q : Value -> Shared -> Prop} (ht : IsTup s.heap t items) (hs : s.heap.IsSliceOf sl vl vu .none) (pl : IsPart vl lo) (pu : IsPart vu hi)
    (hw : ¬ (sIx items.size 0 lo = 0 /\ sIx items.size items.size hi = items.size))
    (h : Q (.ref s.heap.objs.size) { s with heap := s.heap.push { cls := .type "tuple", data := .seq ((items.toList.drop (sIx items.size 0 lo)).take (sIx items.size items.size hi - sIx items.size 0 lo)).toArray } })
    (hsz : items.size <= sizeLine) : wpAny (model prog w) A (getItem (.ref t) (.ref sl)) Q E s := by
  have htake : sizeOk (.seq ((items.toList.drop (sIx items.size 0 lo)).take (sIx items.size items.size hi - sIx items.size 0 lo)).toArray) := by
    show ((items.toList.drop (sIx items.size 0 lo)).take (sIx items.size items.size hi - sIx items.size 0 lo)).toArray.size <= sizeLine
    rw [List.size_toArray, List.length_take, List.length_drop, Array.length_toList]
    omega
  have hj : sIx items.size items.size hi <= items.size := sIx_le _ _ (Nat.le_refl _) hi
  obtain ⟨os, hos, hcs, hds⟩ := id hs
  have hTs : s.TypeIs (.ref sl) "slice" := ⟨os, hos, hcs⟩
  unfold getItem
  try with_reducible refine wpAny_holding ?_
  first | refine wpAny_bind (wpAny_pure ?_) | skip
  refine wpAny_bind (wpAny_sequenceKey ht.typeIs (by decide) ?_)
  refine wpAny_bind (wpAny_callSpecial?_slot (name := Str.ofString "__getitem__") ht.typeIs PyProof.Rows.slot_tuple_getitem
    (wpAny_call_entry PyProof.Rows.slot_tuple_getitem ht.typeIs entry_tuple_getitem ?_ (args_tuple_getitem _ _)))
  show wpAny _ _ (Builtin.Tuple.tupleItemsOf (.ref t) >>= _) _ _ s
  refine wpAny_bind (tupleItemsOf_ ht ?_)
  refine wpAny_bind (wpAny_typeOf hTs ?_)
  rw [if_pos (by decide)]
  refine wpAny_bind (sliceApplied_gen hs pl pu ?_)
  have hno : ¬ ((((sIx items.size 0 lo : Nat) : Int) == 0 && (1 : Int) == 1 && (sIx items.size items.size hi - sIx items.size 0 lo) == items.size) = true) := by
    intro q
    rw [Bool.and_eq_true, Bool.and_eq_true] at q
    have q1 : ((sIx items.size 0 lo : Nat) : Int) = 0 := eq_of_beq q.1.1
    have q2 : sIx items.size items.size hi - sIx items.size 0 lo = items.size := eq_of_beq q.2
    exact hw ⟨by omega, by omega⟩
  show wpAny _ _ (if (((sIx items.size 0 lo : Nat) : Int) == 0 && (1 : Int) == 1 && (sIx items.size items.size hi - sIx items.size 0 lo) == items.size) = true then _ else _) _ _ s
  rw [if_neg hno, pick_gen]
  first
    | exact wpAny_bind (m := Builtin.Tuple.tupleExact _) (wpAny_newObj_type (wpAny_pure ⟨_, rfl, wpAny_pure h⟩) htake)
    | exact wpAny_bind (m := Builtin.Tuple.tupleExact _) (wpAny_newObj_type (wpAny_bind (wpAny_pure (wpAny_pure ⟨_, rfl, wpAny_pure h⟩))) htake)
    | exact wpAny_bind (wpAny_bind (m := Builtin.Tuple.tupleExact _) (wpAny_newObj_type (wpAny_pure (wpAny_pure ⟨_, rfl, wpAny_pure h⟩)) htake))
    | exact wpAny_bind (wpAny_bind (m := Builtin.Tuple.tupleExact _) (wpAny_newObj_type (wpAny_pure ⟨_, rfl, wpAny_pure h⟩) htake))
end
end HT
namespace L2
open PySem PySem.Spec PyProof.Rows
noncomputable abbrev TO := St -> Hp -> (Option Int -> Hp -> Prop) -> Prop
noncomputable def PO (X : Cx) (e : Option Expr) (t : TO) : Prop :=
  ∀ (pins : List (Addr × Obj)) (s : Shared) (σ : St) (H : Hp) (Q : Option Int -> Hp -> Prop), Inv X pins σ H s -> t σ H Q ->
    wpAny (model X.prog X.w) X.A (evalPart e X.env) (fun u s' => ∃ o H', Inv X pins σ H' s' /\ IsPart u o /\ Q o H') X.xe s
noncomputable def tNoPart : TO := fun _ H Q => Q none H
noncomputable def tPart (t : TE) : TO := fun σ H Q => t σ H fun x H1 => ∃ i, x = .int i /\ Q (some i) H1
section
variable {X : Cx} {e : Expr} {te : TE} {lo hi : Option Expr} {tl th : TO} {pos p2 : Pos}
theorem po_none : PO X none tNoPart := by
  intro pins s σ H Q I h
  rw [evalPart_none]
  exact wpAny_pure ⟨none, H, I, .none, h⟩
theorem po_some (h : PE X e te) : PO X (some e) (tPart te) := by
  intro pins s σ H Q I hw
  rw [evalPart_some]
  refine thn (h pins s σ H _ I hw) fun u s1 ⟨x, H1, I1, r1, q1⟩ => ?_
  obtain ⟨i, rfl, q⟩ := q1
  obtain ⟨t, rfl⟩ := r1
  exact ⟨some i, H1, I1, .int i t, q⟩
noncomputable def SlR (X : Cx) (r : V -> Option Int -> Option Int -> Hp -> VK -> Prop) : Prop :=
  ∀ (pins : List (Addr × Obj)) (s : Shared) (σ : St) (H : Hp) (x : V) (v vl vu : Value) (lo hi : Option Int) (sl : Addr) (Q : VK), Inv X pins σ H s -> RelV x v -> s.heap.IsSliceOf sl vl vu .none -> IsPart vl lo -> IsPart vu hi -> r x lo hi H Q ->
    ∃ T id, typeLookup (.type T) "__getitem__" = pure (some (.builtin id)) /\ s.TypeIs v T /\ wpAny (model X.prog X.w) X.A (getItem v (.ref sl)) (EP X pins σ Q) X.xe s
noncomputable def tSl (r : V -> Option Int -> Option Int -> Hp -> VK -> Prop) (te : TE) (tl th : TO) : TE := fun σ H Q => te σ H fun x H1 => tl σ H1 fun l H2 => th σ H2 fun u H3 => r x l u H3 Q
theorem pe_slice {r : V -> Option Int -> Option Int -> Hp -> VK -> Prop} (hr : SlR X r) (he : PE X e te) (hl : PO X lo tl) (hu : PO X hi th) : PE X (.Subscript e (.Slice lo hi none p2) pos) (tSl r te tl th) := by
  intro pins s σ H Q I h
  refine Subscript_ (thn (he pins s σ H _ I h) fun v s1 ⟨x, H1, I1, r1, q1⟩ => ?_)
  refine wpAny_Slice (thn (hl pins s1 σ H1 _ I1 q1) fun vl s2 ⟨l, H2, I2, pl, q2⟩ => thn (hu pins s2 σ H2 _ I2 q2) fun vu s3 ⟨u, H3, I3, pu, q3⟩ => ?_)
  rw [evalPart_none]
  refine wpAny_pure ?_
  have I4 : Inv X pins σ H3 { s3 with heap := s3.heap.push { cls := .type "slice", data := .fields #[vl, vu, .none] } } := I3.kept (t' := s3.toks) fun b ob q => Heap.get?_push_of_some _ q
  obtain ⟨T, id, hT, ht, hg⟩ := hr pins { s3 with heap := s3.heap.push { cls := .type "slice", data := .fields #[vl, vu, .none] } } σ H3 x v vl vu l u s3.heap.objs.size Q I4 r1 (Heap.IsSliceOf.new ..) pl pu q3
  show wpAny (model X.prog X.w) X.A (subscriptTail e (.Slice lo hi none p2) v (.ref s3.heap.objs.size)) (EP X pins σ Q) X.xe { s3 with heap := s3.heap.push { cls := .type "slice", data := .fields #[vl, vu, .none] } }
  exact tail_any (ops := [.ref s3.heap.objs.size, v]) ht hT hg (by with_unfolding_all rfl)
noncomputable def cutV (xs : List V) (lo hi : Option Int) : List V := (xs.drop (HT.sIx xs.length 0 lo)).take (HT.sIx xs.length xs.length hi - HT.sIx xs.length 0 lo)
theorem cutV_length (xs : List V) (lo hi : Option Int) : (cutV xs lo hi).length <= xs.length := by
  unfold cutV
  rw [List.length_take, List.length_drop]
  omega
noncomputable def rSlT (K : PySem.W.Frag) : V -> Option Int -> Option Int -> Hp -> VK -> Prop := fun x lo hi H Q => ∃ a xs, x = .ref a /\ SqT K H a xs /\
  ¬ (HT.sIx xs.length 0 lo = 0 /\ HT.sIx xs.length xs.length hi = xs.length) /\ ∀ p, H p = none -> Q (.ref p) (upd H p (.tup (cutV xs lo hi)))
theorem sl_tup : SlR X (rSlT X.K) := by
  intro pins s σ H x v vl vu lo hi sl Q I rx hs pl pu h
  obtain ⟨a, xs, rfl, hx, hw, q⟩ := h
  cases rx
  obtain ⟨its, r, ht, hz⟩ := I.tuple hx
  have hlen : its.toArray.size = xs.length := by rw [List.size_toArray]; exact r.length.symm
  refine ⟨"tuple", _, PyProof.Rows.slot_tuple_getitem.lookup, ht.typeIs, ?_⟩
  refine HT.getItem_tuple_cut ht hs pl pu (by rw [hlen]; exact hw) ?_ (by rw [hlen]; exact hz)
  rw [hlen]
  refine ⟨.ref s.heap.objs.size, _, I.laid (t' := s.toks) (o := .tup (cutV xs lo hi)) (fun b ob q => Heap.get?_push_of_some _ q) (Nat.le_refl _) ?_, rfl, q _ (I.hok.fresh (Nat.le_refl _))⟩
  exact ⟨Nat.le_trans (cutV_length xs lo hi) hz, _, (r.drop (HT.sIx xs.length 0 lo)).take (HT.sIx xs.length xs.length hi - HT.sIx xs.length 0 lo), IsTup.new _ _⟩
end
end L2
namespace L2
open PySem PySem.Spec PyProof.Rows
noncomputable def ixN (n : Nat) (i : Int) : Option Nat := if 0 <= i then (if i < n then some i.toNat else none) else if -(n : Int) <= i then some (i + n).toNat else none
noncomputable def atI {α : Type} (xs : List α) (i : Int) : Option α := (ixN xs.length i).bind fun j => xs[j]?
theorem ixN_seq {n : Nat} {i : Int} {j : Nat} (h : ixN n i = some j) : seqIndex? i n = some j /\ j < n /\ -(n : Int) <= i /\ i < n := by
  unfold ixN at h
  by_cases h0 : 0 <= i
  · rw [if_pos h0] at h
    by_cases h1 : i < n
    · rw [if_pos h1] at h
      have e : i.toNat = j := Option.some.inj h
      exact ⟨by rw [seqIndex_of h0 h1, e], by omega, by omega, h1⟩
    · rw [if_neg h1] at h; cases h
  · rw [if_neg h0] at h
    by_cases h1 : -(n : Int) <= i
    · rw [if_pos h1] at h
      have e : (i + n).toNat = j := Option.some.inj h
      exact ⟨by rw [seqIndex_neg (by omega) h1, e], by omega, h1, by omega⟩
    · rw [if_neg h1] at h; cases h
theorem atI_get {α : Type} {xs : List α} {i : Int} {v : α} (h : atI xs i = some v) : ∃ j, seqIndex? i xs.length = some j /\ xs[j]? = some v /\ j < xs.length /\ -(xs.length : Int) <= i /\ i < xs.length := by
  unfold atI at h
  cases e : ixN xs.length i with
  | none => rw [e] at h; cases h
  | some j =>
    rw [e] at h
    obtain ⟨h1, h2, h3, h4⟩ := ixN_seq e
    exact ⟨j, h1, h, h2, h3, h4⟩
theorem atI_nat {α : Type} {xs : List α} {j : Nat} {v : α} (h : xs[j]? = some v) : atI xs (j : Int) = some v := by
  have hj : j < xs.length := (List.getElem?_eq_some_iff.mp h).1
  have e : ixN xs.length (j : Int) = some j := by
    unfold ixN
    rw [if_pos (by omega), if_pos (by omega)]; simp
  unfold atI; rw [e]; exact h
noncomputable def PlainIx (b : Expr) : Prop := ∀ o i, subscripted b false o i = operate [o, i] (getItem o i)
noncomputable def IxR (X : Cx) (r : R2) : Prop :=
  ∀ (value slice : Expr) (pins : List (Addr × Obj)) (s : Shared) (σ : St) (H : Hp) (x y : V) (v u : Value) (Q : VK), Inv X pins σ H s -> RelV x v -> RelV y u -> r x y H Q ->
    subscripted slice false v u = operate [v, u] (getItem v u) -> wpAny (model X.prog X.w) X.A (subscriptTail value slice v u) (EP X pins σ Q) X.xe s
noncomputable def MtR (X : Cx) (id : String) (r : V -> List V -> Hp -> VK -> Prop) : Prop :=
  ∀ (pins : List (Addr × Obj)) (s : Shared) (σ : St) (H : Hp) (x : V) (xs : List V) (v : Value) (us : List Value) (Q : VK), Inv X pins σ H s -> RelV x v -> Vals xs us -> r x xs H Q ->
    wpAny (model X.prog X.w) X.A (call (.builtin id) (v :: us)) (EP X pins σ Q) X.xe s
section
variable {X : Cx} {a b : Expr} {ta tb : TE} {pos : Pos}
theorem pe_ix {r : R2} (hr : IxR X r) (ha : PE X a ta) (hb : PE X b tb) (hs : PlainIx b) : PE X (.Subscript a b pos) (tOp r ta tb) := by
  intro pins s σ H Q I h
  exact Subscript_ (binT ha hb I h fun v u s2 x y H2 I2 rx ry q => hr a b pins s2 σ H2 x y v u Q I2 rx ry q (hs _ _))
noncomputable def rIxL (K : PySem.W.Frag) : R2 := fun x y H Q => ∃ p xs i v, x = .ref p /\ y = .int i /\ SqL K H p xs /\ atI xs i = some v /\ Q v H
noncomputable def rIxT (K : PySem.W.Frag) : R2 := fun x y H Q => ∃ p xs i v, x = .ref p /\ y = .int i /\ SqT K H p xs /\ atI xs i = some v /\ Q v H
noncomputable def rIxS : R2 := fun x y H Q => ∃ z i c, x = .str z /\ y = .int i /\ z.length <= sizeLine /\ atI z.cps.toList i = some c /\ Q (.str ⟨#[c]⟩) H
theorem ix_list : IxR X (rIxL X.K) := by
  intro value slice pins s σ H x y v u Q I rx ry h hs
  obtain ⟨p, xs, i, z, rfl, rfl, hq, he, q⟩ := h
  cases rx
  obtain ⟨t, rfl⟩ := ry
  obtain ⟨its, r, pl, hz⟩ := I.list hq
  obtain ⟨j, h1, h2, h3, h4, h5⟩ := atI_get he
  obtain ⟨w, ew, rw'⟩ := r.get h2
  have hl := r.length
  have hn := line63
  have fin : EP X pins σ Q w s := ⟨z, H, I, rw', q⟩
  by_cases h0 : 0 <= i
  · have hj : i.toNat = j := by
      rw [seqIndex_of h0 h5] at h1
      exact Option.some.inj h1
    exact item_listR pl.isList h0 (by omega) (by rw [hj]; simpa using ew) fin hs
  · have hj : (i + (its.toArray.size : Int)).toNat = j := by
      rw [seqIndex_neg (by omega) h4] at h1
      rw [List.size_toArray, <- hl]
      exact Option.some.inj h1
    exact subscriptTail_builtinR (x := w) pl.isList.typeIs slot_list_getitem.lookup
      (wpAny_getItem_list_neg (Q := fun r s' => r = w /\ EP X pins σ Q r s') pl.isList (by omega) (by rw [List.size_toArray] <;> omega) (by omega) (by rw [hj]; simpa using ew) ⟨rfl, fin⟩) hs
theorem ix_tup : IxR X (rIxT X.K) := by
  intro value slice pins s σ H x y v u Q I rx ry h hs
  obtain ⟨p, xs, i, z, rfl, rfl, hq, he, q⟩ := h
  cases rx
  obtain ⟨t, rfl⟩ := ry
  obtain ⟨its, r, pl, hz⟩ := I.tuple hq
  obtain ⟨j, h1, h2, h3, h4, h5⟩ := atI_get he
  obtain ⟨w, ew, rw'⟩ := r.get h2
  have hl := r.length
  have hn := line63
  have fin : EP X pins σ Q w s := ⟨z, H, I, rw', q⟩
  exact subscriptTail_builtinR (x := w) pl.typeIs slot_tuple_getitem.lookup
    (getItem_tuple (j := j) (Q := fun r s' => r = w /\ EP X pins σ Q r s') pl (by omega) (by omega) (by rw [List.size_toArray, <- hl]; exact h1) (by simpa using ew) ⟨rfl, fin⟩) hs
theorem ix_str : IxR X rIxS := by
  intro value slice pins s σ H x y v u Q I rx ry h hs
  obtain ⟨z, i, c, rfl, rfl, hz, he, q⟩ := h
  obtain ⟨t, rfl⟩ := rx
  obtain ⟨t', rfl⟩ := ry
  obtain ⟨j, h1, h2, h3, h4, h5⟩ := atI_get he
  have hl : z.cps.toList.length = z.length := by simp [Str.length]
  rw [hl] at h1 h4 h5
  have hn := line63
  exact tail_any (typeIs_str s z t) slot_str_getitem.lookup (getItem_str (c := c) (by
    have e1 : decide (i < -(2 ^ 63 : Int)) = false := decide_eq_false (by omega)
    have e2 : decide (i ≥ 2 ^ 63) = false := decide_eq_false (by omega)
    rw [e1, e2, Bool.or_false]) (by rw [h1]; simpa using h2) ⟨.str ⟨#[c]⟩, H, I.tok _, ⟨_, rfl⟩, q⟩) hs
theorem mapSeq_set (its : List Value) (n j : Nat) (u : Value) : Obj.mapSeq (·.setIfInBounds j u) { cls := .type "list", data := .seq its.toArray n } = { cls := .type "list", data := .seq (its.set j u).toArray n } := by
  simp [Obj.mapSeq]
theorem Inv.lst {pins : List (Addr × Obj)} {σ : St} {H : Hp} {s : Shared} {p : Addr} {xs : List V} (I : Inv X pins σ H s) (h : H p = some (.lst xs)) :
    ∃ (its : List Value) (n : Nat), Vals xs its /\ s.heap.get? p = some { cls := .type "list", data := .seq its.toArray n } /\ xs.length <= sizeLine := by
  obtain ⟨z, its, n, r, e⟩ := I.hok p _ h
  exact ⟨its, n, r, e, z⟩
theorem Inv.lstUpd {pins : List (Addr × Obj)} {σ : St} {H : Hp} {s : Shared} {p : Addr} {xs ys : List V} {its its' : List Value} {n n' : Nat} {f : Obj -> Obj} (I : Inv X pins σ H s) (h : H p = some (.lst xs))
    (ho : s.heap.get? p = some { cls := .type "list", data := .seq its.toArray n }) (hf : f { cls := .type "list", data := .seq its.toArray n } = { cls := .type "list", data := .seq its'.toArray n' }) (r : Vals ys its') (hz : ys.length <= sizeLine) (t : Nat) :
    Inv X pins σ (upd H p (.lst ys)) { s with heap := s.heap.update p f, toks := t } := by
  have e : (s.heap.update p f).get? p = some { cls := .type "list", data := .seq its'.toArray n' } := by
    rw [Heap.get?_update_self f ho (by rw [hf] <;> rfl), hf]
  refine I.write (x := p) (e := p) (by rw [h]; trivial) (.inl rfl) (fun b u hb q => (Heap.get?_update_other _ _ (Ne.symm hb)).trans q) ⟨_, e⟩ ?_
  exact ⟨hz, its', n', r, e⟩
noncomputable def rSetL : V -> V -> V -> Hp -> (Hp -> Prop) -> Prop := fun o i v H Q => ∃ p xs k j, o = .ref p /\ i = .int k /\ H p = some (.lst xs) /\ ixN xs.length k = some j /\ Q (upd H p (.lst (xs.set j v)))
theorem set_list : PSet X rSetL := by
  intro pins s σ H o i v ov iv u Q I ro ri rv h
  obtain ⟨p, xs, k, j, rfl, rfl, hp, hj, q⟩ := h
  cases ro
  obtain ⟨t, rfl⟩ := ri
  obtain ⟨its, n, r, ho, hz⟩ := I.lst hp
  obtain ⟨h1, h2, h3, h4⟩ := ixN_seq hj
  have hl := r.length
  have hn := line63
  have I' : Inv X pins σ (upd H p (.lst (xs.set j v))) { s with heap := s.heap.update p (Obj.mapSeq (·.setIfInBounds j u)) } :=
    I.lstUpd hp ho (mapSeq_set its n j u) (r.set rv j) (by rw [List.length_set]; exact hz) s.toks
  by_cases h0 : 0 <= k
  · have hk : k.toNat = j := by
      rw [seqIndex_of h0 h4] at h1
      exact Option.some.inj h1
    exact PySem.W.ki_setAt ho h0 (by omega) (by rw [List.size_toArray, <- hl]; exact h4) (by rw [hk]; exact ⟨_, I', q⟩)
  · have hk : (k + (its.toArray.size : Int)).toNat = j := by
      rw [seqIndex_neg (by omega) h3] at h1
      rw [List.size_toArray, <- hl]
      exact Option.some.inj h1
    exact PySem.W.ki_setBack ho (by omega) (by rw [List.size_toArray, <- hl]; exact h3) (by omega) (by rw [hk]; exact ⟨_, I', q⟩)
theorem slice_bounds (lo hi : Option Int) (n : Nat) : (sliceBounds lo hi none n).1 = ((HT.sIx n 0 lo : Nat) : Int) /\ (sliceBounds lo hi none n).2.1 = ((HT.sIx n n hi : Nat) : Int) /\ (sliceBounds lo hi none n).2.2 = 1 := by
  refine ⟨?_, ?_, rfl⟩
  · cases lo with
    | none => simp [sliceBounds, HT.sIx]
    | some i =>
      simp only [sliceBounds, HT.sIx, Option.getD_none, show (1 : Int) > 0 by decide, if_true]
      by_cases h : i < 0
      · simp only [h, if_true] <;> omega
      · simp only [h, if_false] <;> omega
  · cases hi with
    | none => simp [sliceBounds, HT.sIx]
    | some i =>
      simp only [sliceBounds, HT.sIx, Option.getD_none, show (1 : Int) > 0 by decide, if_true]
      by_cases h : i < 0
      · simp only [h, if_true] <;> omega
      · simp only [h, if_false] <;> omega
theorem slicePick_cut (its : List Value) (lo hi : Option Int) : slicePick its.toArray lo hi none = ((its.drop (HT.sIx its.length 0 lo)).take (HT.sIx its.length its.length hi - HT.sIx its.length 0 lo)).toArray := by
  obtain ⟨h1, h2, h3⟩ := slice_bounds lo hi its.toArray.size
  unfold slicePick
  rw [h1, h2, h3]
  simp only [sliceRange_one, pick_run, List.size_toArray] <;> rfl
noncomputable def rSlL (K : PySem.W.Frag) : V -> Option Int -> Option Int -> Hp -> VK -> Prop := fun x lo hi H Q => ∃ a xs, x = .ref a /\ SqL K H a xs /\ ∀ p, H p = none -> Q (.ref p) (upd H p (.lst (cutV xs lo hi)))
theorem sl_list : SlR X (rSlL X.K) := by
  intro pins s σ H x v vl vu lo hi sl Q I rx hs pl pu h
  obtain ⟨a, xs, rfl, hx, q⟩ := h
  cases rx
  obtain ⟨its, r, ht, hz⟩ := I.list hx
  have hlen := r.length
  refine ⟨"list", _, slot_list_getitem.lookup, ht.isList.typeIs, ?_⟩
  refine wpAny_getItem_list_slice ht.isList hs pl pu .none (by simp) ?_ (by rw [List.size_toArray] <;> omega)
  rw [slicePick_cut, <- hlen]
  refine ⟨.ref s.heap.objs.size, _, I.laid (t' := s.toks) (o := .lst (cutV xs lo hi)) (fun b ob q => Heap.get?_push_of_some _ q) (Nat.le_refl _) ?_, rfl, q _ (I.hok.fresh (Nat.le_refl _))⟩
  exact ⟨Nat.le_trans (cutV_length xs lo hi) hz, _, 0, (r.drop (HT.sIx xs.length 0 lo)).take (HT.sIx xs.length xs.length hi - HT.sIx xs.length 0 lo), Heap.get?_push_size _ rfl⟩
noncomputable def flatV : V -> Bool
  | .non => true
  | .bl _ => true
  | .int _ => true
  | .str _ => true
  | _ => false
noncomputable def eqV : V -> V -> Bool
  | .non, .non => true
  | .bl a, .bl b => a == b
  | .bl a, .int b => (if a then 1 else 0) == b
  | .int a, .bl b => a == (if b then 1 else 0)
  | .int a, .int b => a == b
  | .str a, .str b => a == b
  | _, _ => false
theorem eqAt_V {A : Around} {s : Shared} {y x : V} {u v : Value} (ry : RelV y u) (rx : RelV x v) (fy : flatV y = true) (fx : flatV x = true) : SeqAt.EqAt A s u v (eqV y x) := by
  cases y with
  | non =>
    cases ry
    cases x with
    | non => cases rx; exact SeqAt.EqAt.same _
    | bl b => cases rx; exact SeqAt.EqAt.none_bool b
    | int b => obtain ⟨t, rfl⟩ := rx; exact SeqAt.EqAt.none_int b t
    | str b => obtain ⟨t, rfl⟩ := rx; exact SeqAt.EqAt.none_str b t
    | _ => exact absurd (show false = true from fx) Bool.false_ne_true
  | bl a =>
    cases ry
    cases x with
    | non => cases rx; exact SeqAt.EqAt.bool_none a
    | bl b => cases rx; exact SeqAt.EqAt.bool_bool a b
    | int b => obtain ⟨t, rfl⟩ := rx; exact SeqAt.EqAt.bool_int a b t
    | str b => obtain ⟨t, rfl⟩ := rx; exact SeqAt.EqAt.bool_str a b t
    | _ => exact absurd (show false = true from fx) Bool.false_ne_true
  | int a =>
    obtain ⟨t', rfl⟩ := ry
    cases x with
    | non => cases rx; exact SeqAt.EqAt.int_none a t'
    | bl b => cases rx; exact SeqAt.EqAt.int_bool a t' b
    | int b => obtain ⟨t, rfl⟩ := rx; exact SeqAt.EqAt.int_int a t' b t
    | str b => obtain ⟨t, rfl⟩ := rx; exact SeqAt.EqAt.int_str a t' b t
    | _ => exact absurd (show false = true from fx) Bool.false_ne_true
  | str a =>
    obtain ⟨t', rfl⟩ := ry
    cases x with
    | non => cases rx; exact SeqAt.EqAt.str_none a t'
    | bl b => cases rx; exact SeqAt.EqAt.str_bool a t' b
    | int b => obtain ⟨t, rfl⟩ := rx; exact SeqAt.EqAt.str_int a t' b t
    | str b => obtain ⟨t, rfl⟩ := rx; exact SeqAt.EqAt.str_str a t' b t
    | _ => exact absurd (show false = true from fx) Bool.false_ne_true
  | _ => exact absurd (show false = true from fy) Bool.false_ne_true
noncomputable def eqU (x : V) (u : Value) : Bool := match u with
  | .none => eqV .non x
  | .bool b => eqV (.bl b) x
  | .int i _ => eqV (.int i) x
  | .str z _ => eqV (.str z) x
  | _ => false
theorem eqU_of {x y : V} {u : Value} (r : RelV y u) (f : flatV y = true) : eqU x u = eqV y x := by
  cases y with
  | non => cases r; rfl
  | bl b => cases r; rfl
  | int i => obtain ⟨t, rfl⟩ := r; rfl
  | str z => obtain ⟨t, rfl⟩ := r; rfl
  | _ => exact absurd (show false = true from f) Bool.false_ne_true
theorem any_eqU {x : V} : ∀ {xs : List V} {us : List Value}, Vals xs us -> xs.all flatV = true -> us.any (eqU x) = xs.any fun y => eqV y x
  | _, _, .nil, _ => rfl
  | y :: xs, u :: us, .cons r t, f => by
    rw [List.all_cons, Bool.and_eq_true] at f
    rw [List.any_cons, List.any_cons, eqU_of r f.1, any_eqU t f.2]
theorem mem_eqAt {A : Around} {s : Shared} {x : V} {v : Value} (rx : RelV x v) (fx : flatV x = true) : ∀ {xs : List V} {us : List Value}, Vals xs us -> xs.all flatV = true -> ∀ u ∈ us, SeqAt.EqAt A s u v (eqU x u)
  | _, _, .nil, _ => fun u hu => by cases hu
  | y :: xs, u :: us, .cons r t, f => fun u' hu => by
    rw [List.all_cons, Bool.and_eq_true] at f
    rcases List.mem_cons.mp hu with rfl | hu
    · rw [eqU_of r f.1]; exact eqAt_V r rx f.1 fx
    · exact mem_eqAt rx fx t f.2 u' hu
noncomputable def inV (x : V) (xs : List V) : Bool := xs.any fun y => eqV y x
noncomputable def rIn (K : PySem.W.Frag) (neg : Bool) : R2 := fun x y H Q => ∃ p xs, y = .ref p /\ (SqL K H p xs \/ SqT K H p xs) /\ flatV x = true /\ xs.all flatV = true /\ Q (.bl (if neg then !inV x xs else inV x xs)) H
theorem op_in_seq : OpR X (compareOp .In) (rIn X.K false) := by
  intro pins s σ H x y v u Q I rx ry h
  obtain ⟨p, xs, rfl, hq, fx, fs, q⟩ := h
  cases ry
  rcases hq with hq | hq
  · obtain ⟨its, r, pl, hz⟩ := I.list hq
    refine SeqAt.in_listAt (eqU x) pl.isList (fun w hw => mem_eqAt rx fx r fs w (by simpa using hw)) ⟨.bl _, H, I, rfl, ?_⟩
    rw [show its.toArray.any (eqU x) = its.any (eqU x) by simp, any_eqU r fs]
    exact q
  · obtain ⟨its, r, pl, hz⟩ := I.tuple hq
    refine SeqAt.in_tupleAt (eqU x) pl (fun w hw => mem_eqAt rx fx r fs w (by simpa using hw)) ⟨.bl _, H, I, rfl, ?_⟩
    rw [show its.toArray.any (eqU x) = its.any (eqU x) by simp, any_eqU r fs]
    exact q
theorem op_notIn_str : OpR X (compareOp .NotIn) (fun x y H Q => ∃ i j, x = .str i /\ y = .str j /\ Q (.bl (!(!(Builtin.Str.occurrences j i 0 j.length 1).isEmpty))) H) := by
  intro pins s σ H x y v u Q I rx ry h
  obtain ⟨i, j, rfl, rfl, q⟩ := h
  obtain ⟨t, rfl⟩ := rx
  obtain ⟨t', rfl⟩ := ry
  exact notIn_str ⟨.bl _, H, I, rfl, q⟩
theorem call_len_seq : CallR X (.builtin "len") (fun xs H Q => ∃ p ys, xs = [.ref p] /\ (SqL X.K H p ys \/ SqT X.K H p ys) /\ Q (.int ys.length) H) := by
  intro pins s σ H xs us Q I r h
  obtain ⟨p, ys, rfl, hq, q⟩ := h
  obtain ⟨u, rfl, rx⟩ := vals1 r
  cases rx
  have hn := line63
  rcases hq with hq | hq
  · obtain ⟨its, r', pl, hz⟩ := I.list hq
    have hlen := r'.length
    exact Calls.call_len_list pl.isList (by simp only [List.size_toArray] <;> omega) ⟨.int ys.length, H, I.tok _, ⟨s.toks + 1, by rw [List.size_toArray, hlen]⟩, q⟩
  · obtain ⟨its, r', pl, hz⟩ := I.tuple hq
    have hlen := r'.length
    exact len_tuple pl (by simp only [List.size_toArray] <;> omega) ⟨.int ys.length, H, I.tok _, ⟨s.toks + 1, by rw [List.size_toArray, hlen]⟩, q⟩
theorem call_len_str : CallR X (.builtin "len") (fun xs H Q => ∃ z, xs = [.str z] /\ z.length <= sizeLine /\ Q (.int z.length) H) := by
  intro pins s σ H xs us Q I r h
  obtain ⟨z, rfl, hz, q⟩ := h
  obtain ⟨u, rfl, t, rfl⟩ := vals1 r
  have hn := line63
  exact len_str (by omega) ⟨.int z.length, H, I.tok _, ⟨_, rfl⟩, q⟩
theorem call_tuple_of : CallR X (.type "tuple") (fun xs H Q => ∃ p ys, xs = [.ref p] /\ ((SqL X.K H p ys /\ ∀ l, H l = none -> Q (.ref l) (upd H l (.tup ys))) \/ (SqT X.K H p ys /\ Q (.ref p) H))) := by
  intro pins s σ H xs us Q I r h
  obtain ⟨p, ys, rfl, h⟩ := h
  obtain ⟨u, rfl, rx⟩ := vals1 r
  cases rx
  rcases h with ⟨hq, q⟩ | ⟨hq, q⟩
  · obtain ⟨its, r', pl, hz⟩ := I.list hq
    have hlen := r'.length
    refine call_tuple_list pl.isList (fun h' kp => ?_) (by simp only [List.size_toArray] <;> omega)
    have I1 : Inv X pins σ H { s with heap := h' } := I.kept (t' := s.toks) kp
    have I2 : Inv X pins σ (upd H h'.objs.size (.tup ys)) { s with heap := h'.push { cls := .type "tuple", data := .seq its.toArray } } :=
      I1.laid (t' := s.toks) (fun b o e => Heap.get?_push_of_some _ e) (Nat.le_refl _) (show ObjOk X.prog X.w _ _ _ (.tup ys) from ⟨hz, its, r', IsTup.new _ _⟩)
    exact ⟨.ref h'.objs.size, _, I2, rfl, q _ (I1.hok.fresh (Nat.le_refl _))⟩
  · obtain ⟨its, r', pl, hz⟩ := I.tuple hq
    exact call_tuple_same pl ⟨.ref p, H, I, rfl, q⟩
noncomputable def tyV (K : PySem.W.Frag) (T : String) (x : V) (H : Hp) : Prop := match x with
  | .str _ => T = "str"
  | .int _ => T = "int"
  | .ref p => (T = "list" /\ ∃ xs, SqL K H p xs) \/ (T = "tuple" /\ ∃ o, K.lookup p = some o /\ o.cls = .type "tuple" /\ o.dict = none) \/
      (T = "dict" /\ ((∃ kvs, H p = some (.dK kvs)) \/ ∃ kvs, H p = some (.dT kvs))) \/ (T = "set" /\ ∃ S n, H p = some (.set S n))
  | _ => False
theorem tyV_is {pins : List (Addr × Obj)} {σ : St} {H : Hp} {s : Shared} {T : String} {x : V} {v : Value} (I : Inv X pins σ H s) (r : RelV x v) (ty : tyV X.K T x H) :
    s.TypeIs v T /\ ∀ a, v = .ref a -> ∃ ob, s.heap.get? a = some ob /\ ob.dict = none := by
  cases x with
  | str z =>
    obtain ⟨t, rfl⟩ := r
    cases (show T = "str" from ty)
    exact ⟨typeIs_str s z t, fun _ e => nomatch e⟩
  | int i =>
    obtain ⟨t, rfl⟩ := r
    cases (show T = "int" from ty)
    exact ⟨typeIs_int s i t, fun _ e => nomatch e⟩
  | ref p =>
    cases r
    rcases ty with ⟨rfl, xs, hq⟩ | ⟨rfl, o, hk, hc, hd⟩ | ⟨rfl, hk⟩ | ⟨rfl, S, n, hk⟩
    · obtain ⟨its, _, pl, _⟩ := I.list hq
      refine ⟨pl.isList.typeIs, fun a e => ?_⟩
      cases e
      obtain ⟨o, n, e, c, hd, _⟩ := pl
      exact ⟨o, e, hd⟩
    · refine ⟨⟨o, I.kIn p o hk, hc⟩, fun a e => ?_⟩
      cases e
      exact ⟨o, I.kIn _ o hk, hd⟩
    · have z : ∃ o, s.heap.get? p = some o /\ o.ExactDict := by
        rcases hk with ⟨kvs, hk⟩ | ⟨kvs, hk⟩
        · obtain ⟨_, _, _, _, o, _, _, e, ex, _⟩ := I.hok p _ hk
          exact ⟨o, e, ex⟩
        · obtain ⟨_, _, _, _, o, _, _, e, ex, _⟩ := I.hok p _ hk
          exact ⟨o, e, ex⟩
      obtain ⟨o, e, ex⟩ := z
      refine ⟨⟨o, e, ex.1⟩, fun a e2 => ?_⟩
      cases e2
      exact ⟨o, e, ex.2.1⟩
    · obtain ⟨o, _, _, _, e, ex, _⟩ := I.hok p _ hk
      refine ⟨⟨o, e, ex.1⟩, fun a e2 => ?_⟩
      cases e2
      exact ⟨o, e, ex.2.1⟩
  | _ => exact False.elim ty
noncomputable def tBM0 (K : PySem.W.Frag) (T : String) (r : V -> List V -> Hp -> VK -> Prop) (to : TE) : TE := fun σ H Q => to σ H fun x H1 => tyV K T x H1 /\ r x [] H1 Q
noncomputable def tBM (K : PySem.W.Frag) (T : String) (r : V -> List V -> Hp -> VK -> Prop) (to : TE) (t : TA) : TE := fun σ H Q => to σ H fun x H1 => tyV K T x H1 /\ t σ H1 fun xs H2 => r x xs H2 Q
variable {o e : Expr} {es : List Expr} {to : TE} {t : TA} {name : Str} {apos cpos : Pos} {T id : String} {r : V -> List V -> Hp -> VK -> Prop}
theorem pe_bm0 (pa : PlainAttrs T) (slot : Slot T name id) (hty : typeOf (.builtin id) = pure (.type "method_descriptor")) (hm : MtR X id r) (ho : PE X o to)
    (hbase : attributeBase o name X.env (eval o X.env) = eval o X.env := by rfl) (hline : (apos.endLine == cpos.line) = true := by rfl) : PE X (.Call (.Attribute o name apos) [] [] cpos) (tBM0 X.K T r to) := by
  intro pins s σ H Q I h
  refine wpAny_Call_method0_late hbase hline (thn (ho pins s σ H _ I h) fun v s1 ⟨x, H1, I1, r1, ty, q1⟩ => ?_)
  obtain ⟨h1, h2⟩ := tyV_is I1 r1 ty
  exact ⟨T, id, pa, slot, hty, h1, h2, Calls.callWith_builtin rfl (PySem.evalArgs_none (hm pins s1 σ H1 x [] v [] Q I1 r1 .nil q1))⟩
theorem pe_bm (pa : PlainAttrs T) (slot : Slot T name id) (hty : typeOf (.builtin id) = pure (.type "method_descriptor")) (hm : MtR X id r) (ho : PE X o to) (ha : PA X (e :: es) t)
    (hbase : attributeBase o name X.env (eval o X.env) = eval o X.env := by rfl)
    (hfew : ((backTo cpos (starEach (e :: es) X.env)).all (fun x => !x.1) && (backToKw cpos (keywordEach [] X.env)).all (fun x => x.1.isSome)
      && decide ((e :: es).length + ([] : List Keyword).length + (if ([] : List Keyword).isEmpty then 0 else 1) < 30)) = true := by rfl)
    (hline : (apos.endLine == cpos.line) = true := by rfl) (hs : starEach (e :: es) X.env = (false, eval e X.env) :: starEach es X.env := by rfl) (hplain : (backTo cpos (starEach es X.env)).any (·.1) = false := by rfl) :
    PE X (.Call (.Attribute o name apos) (e :: es) [] cpos) (tBM X.K T r to t) := by
  intro pins s σ H Q I h
  refine wpAny_Call_method_late hbase hfew hline rfl (thn (ho pins s σ H _ I h) fun v s1 ⟨x, H1, I1, r1, ty, q1⟩ => ?_)
  obtain ⟨h1, h2⟩ := tyV_is I1 r1 ty
  refine ⟨T, id, pa, slot, hty, h1, h2, ?_⟩
  have hA := ha cpos pins s1 σ H1 _ I1 q1
  rw [hs] at hA ⊢
  refine Calls.callWith_builtin (by show (false || (backTo cpos (starEach es X.env)).any (·.1)) = false; rw [hplain] <;> rfl) (Calls.evalArgs_plain ?_)
  exact thn hA fun us s2 ⟨vs, H2, I2, r2, q2⟩ => hm pins s2 σ H2 x vs v us Q I2 r1 r2 q2
/- xs.append(e), list.index on a module's tuple .. are MtR facts of 06m -/
end
end L2
namespace L2
open PySem PySem.Spec PyProof.Rows
noncomputable def MtM (X : Cx) (id : String) (r : V -> List V -> Hp -> VK -> Prop) : Prop :=
  ∀ (pins : List (Addr × Obj)) (s : Shared) (σ : St) (H : Hp) (x : V) (xs : List V) (v : Value) (us : List Value) (Q : VK), Inv X pins σ H s -> RelV x v -> Vals xs us -> r x xs H Q ->
    wpAny (model X.prog X.w) X.A (call (.builtin id) (v :: us)) (EP X pins σ Q) X.xe s
theorem Vals.one : ∀ {x : V} {us : List Value}, Vals [x] us -> ∃ u, us = [u] /\ RelV x u
  | _, _, .cons r .nil => ⟨_, rfl, r⟩
section
variable {X : Cx} {pins : List (Addr × Obj)} {σ : St} {H : Hp} {s : Shared} {l b : Addr} {xs ys zs : List V}
theorem Inv.lset {its its' : List Value} {n : Nat} {f : Array Value -> Array Value} {t' : Nat} (I : Inv X pins σ H s) (hH : H l = some (.lst xs))
    (e : s.heap.get? l = some { cls := .type "list", data := .seq its.toArray n }) (hf : f its.toArray = its'.toArray) (hv : Vals ys its') (hz : ys.length <= sizeLine) :
    Inv X pins σ (upd H l (.lst ys)) { s with heap := s.heap.update l (Obj.mapSeq f), toks := t' } := by
  have q := PySem.IsL.update e f
  rw [hf] at q
  refine I.write (x := l) (e := l) (by rw [hH]; exact trivial) (.inl rfl) (fun b' u hb hu => (Heap.get?_update_other s.heap (Obj.mapSeq f) (Ne.symm hb)).trans hu) ⟨_, q⟩ ?_
  exact ⟨hz, its', _, hv, q⟩
theorem Inv.lnew {its : List Value} {t' : Nat} (I : Inv X pins σ H s) (hv : Vals ys its) (hz : ys.length <= sizeLine) :
    Inv X pins σ (upd H s.heap.objs.size (.lst ys)) { s with heap := s.heap.push { cls := .type "list", data := .seq its.toArray }, toks := t' } :=
  I.laid (fun _ _ q => Heap.get?_push_of_some _ q) (Nat.le_refl _) ⟨hz, its, 0, hv, Heap.get?_push_size _ rfl⟩
theorem Inv.fresh (I : Inv X pins σ H s) : H s.heap.objs.size = none := I.hok.fresh (Nat.le_refl _)
theorem Inv.lstM (I : Inv X pins σ H s) (hH : H l = some (.lst xs)) : xs.length <= sizeLine /\ ∃ (its : List Value) (n : Nat), Vals xs its /\ xs.length = its.length /\ s.heap.get? l = some { cls := .type "list", data := .seq its.toArray n } := by
  obtain ⟨z, its, n, r, e⟩ := I.hok l _ hH
  exact ⟨z, its, n, r, r.length, e⟩
end
section
variable {X : Cx}
noncomputable def rAppend : V -> List V -> Hp -> VK -> Prop := fun x vs H Q => ∃ l xs y, x = .ref l /\ vs = [y] /\ H l = some (.lst xs) /\ xs.length < sizeLine /\ Q .non (upd H l (.lst (xs ++ [y])))
theorem mt_append : MtM X "list.append" rAppend := by
  intro pins s σ H x vs v us Q I rx rv h
  obtain ⟨l, xs, y, rfl, rfl, hH, hz, q⟩ := h
  cases rx
  obtain ⟨u, rfl, ru⟩ := rv.one
  obtain ⟨z, its, n, r, hl, e⟩ := I.lstM hH
  refine call_meets F.slot_list_append ⟨_, e, rfl⟩ F.entry_list_append (F.args_list_append_2 _ _) (PySem.list_append l its.toArray n u (by rw [List.size_toArray]; omega)) ⟨e, ?_⟩
  refine ⟨.non, _, I.lset (its' := its ++ [u]) hH e (by simp) (r.append (.cons ru .nil)) ?_, rfl, q⟩
  rw [List.length_append, List.length_singleton]
  omega
noncomputable def rCat : R2 := fun x y H Q => ∃ l b xs zs, x = .ref l /\ y = .ref b /\ H l = some (.lst xs) /\ H b = some (.lst zs) /\ xs.length + zs.length <= sizeLine /\ ∀ p, H p = none -> Q (.ref p) (upd H p (.lst (xs ++ zs)))
theorem op_cat : OpR X (binaryOp .Add) rCat := by
  intro pins s σ H x y v u Q I rx ry h
  obtain ⟨l, b, xs, zs, rfl, rfl, hH, hB, hz, q⟩ := h
  cases rx
  cases ry
  obtain ⟨z, its, n, r, hl, e⟩ := I.lstM hH
  obtain ⟨z2, its2, n2, r2, hl2, e2⟩ := I.lstM hB
  refine PySem.P.add_list e e2 ?_ (by rw [List.size_toArray, List.size_toArray]; omega)
  have ea : its.toArray ++ its2.toArray = (its ++ its2).toArray := by simp
  rw [ea]
  exact ⟨.ref _, _, I.lnew (t' := s.toks) (r.append r2) (by rw [List.length_append]; omega), rfl, q _ I.fresh⟩
end
section
variable {prog : Program} {w : World} {A : Around} {E : Value -> Shared -> Prop} {s : Shared}
end
section
variable {X : Cx}
end
end L2
namespace Att
open PySem PySem.W PySem.Calls PyProof.Rows
theorem ints_of_wellAll {P : Params} {h : Heap} : ∀ (ns : List Int) (vs : List Value), WellAll P h vs (ns.map WData.int) -> IntsAre vs ns := by
  intro ns
  induction ns with
  | nil =>
    intro vs w
    rw [List.map_nil] at w
    cases w
    exact .nil
  | cons n ns ih =>
    intro vs w
    rw [List.map_cons] at w
    cases w with
    | cons a b =>
      cases a
      exact .cons _ _ (ih _ b)
theorem script_of {l : OpenLaw} {n : Nat} (hn : l.most = some n) {P : Params} {h : Heap} {args : List WData} {vals : List Value}
    (hpre : l.row.toRowW.claim.pre args = true) (hwl : WellAll P h vals args) :
    ∃ a vs ns, vals = [Value.ref a] /\ args = [WData.list (ns.map WData.int)] /\ h.get? a = some { cls := .type "list", data := .seq vs.toArray } /\ IntsAre vs ns /\ ns.length <= n := by
  have hsh : WShape.hasAll [] args [.list .int] = true := (pre_splitW hpre).1
  have hc : l.pre.holds [] { args := args } = true := (pre_splitW hpre).2
  obtain ⟨d, r, rfl, h1, h2⟩ := hasAllW_cons hsh
  obtain rfl := hasAllW_nil h2
  obtain ⟨xs, rfl, h3⟩ := hasW_list h1
  obtain ⟨ns, rfl⟩ := items_int h3
  have hlen : ns.length <= n := by
    unfold OpenLaw.pre at hc
    have h4 : (WTm.not (.lt (.lit (.int (n : Int))) (.len (.arg 0)))).holds [] { args := [.list (ns.map .int)] } = true := by
      have h4 := (holds_andW hc).1
      rw [hn] at h4
      exact h4
    have h5 := condW_of h4 (w_not (w_lt w_lit (w_len_list (w_arg rfl))))
    rw [List.length_map] at h5
    refine Nat.le_of_not_lt fun q => ?_
    have q' : (n : Int) < ((ns.length : Nat) : Int) := by omega
    first
      | (rw [decide_eq_true q'] at h5; exact absurd h5 (by decide))
      | (simp at h5; omega)
  cases hwl with
  | cons w1 w2 =>
    cases w2
    cases w1 with
    | list ho hall => exact ⟨_, _, ns, rfl, rfl, ho, ints_of_wellAll ns _ hall, hlen⟩
theorem post_true (l : OpenLaw) (args : List WData) : l.row.toRowW.claim.post args (.bool true) args = true :=
  postW_of (r := l.row.toRowW) (X := (true == true))
    (show WShape.has [] (.bool true) .bool = true by first | rfl | decide | simp [WShape.has, WShape.arms, WShape.armsAll])
    (show (WTm.eq .res (.lit (.bool true))).value [] { args := args, res := some (.bool true), after := args } = some (.bool (true == true)) from w_eq_bool (w_res rfl) w_lit) rfl
theorem attach_call {l : OpenLaw} {n : Nat} {q : Program} {loose : List Str} {XP : (Str -> Option Value) -> Heap -> Prop} {YP : World -> Heap -> Prop} {d : DefRec}
    (hn : l.most = some n) (hdf : d.params.defaults = [])
    (call : ∀ (w : World) (s₀ s₁ : Shared) (mg mb : Str -> Option Value) (fa : Addr) (o : Obj) (pm cd doc : Value) (a : Addr) (vs : List Value) (ns : List Int),
      Ground q loose [] XP w s₀ mg mb s₁.heap -> YP w s₁.heap ->
      s₁.heap.get? fa = some o -> o.data = .func (docDef d.name d.params d.body d.scope pm cd doc) -> s₁.heap.CodeRec cd d.name -> mg d.name = some (.ref fa) ->
      s₁.heap.get? a = some { cls := .type "list", data := .seq vs.toArray } -> IntsAre vs ns -> ns.length <= n -> s₁.gens = #[] ->
      codeAny (model l.prog w) callerA (.call (.ref fa) ⟨[.ref a], []⟩) (fun r s' => r = .ok (.ret (.bool true)) /\ OldK s₁.heap s'.heap /\ s'.os = s₁.os /\ AllBare s'.gens) s₁) :
    WalkO q loose XP YP l.row.toRowW d [] (fun f vs => PySem.call f vs) := by
  intro w s₀ s₁ mg mb G Y fa o pm cd doc dV kV ho hd hcd hD hmg hg args vals as hpre hlay hrd hwl hlo
  obtain rfl : dV = .none := Dflts.none hD hdf
  obtain rfl : kV = .none := Dflts.noKw hD
  obtain ⟨a, vs, ns, rfl, rfl, hobj, hints, hlen⟩ := script_of hn hpre hwl
  refine enter_call (codeAny_mono (call w s₀ s₁ mg mb fa o pm cd doc a vs ns G Y ho (fd_plain hd) hcd hmg hobj hints hlen hg) fun r s' hq => ?_)
  obtain ⟨rfl, h2, h3, h4⟩ := hq
  exact ⟨.inl ⟨.bool true, .bool true, [], rfl, fun _ => rfl, .bool true, post_true l _, fun _ => ⟨List.Pairwise.nil, fun _ hm => (nomatch hm)⟩⟩, h2, h3, h4⟩
section
variable {prog : Program} {w : World} {A : Around} {E : Value -> Shared -> Prop} {s : Shared} {K : Frag}
noncomputable def ledger (h : Heap) (L d : Addr) : List (Addr × Obj) := (List.range h.objs.size).filterMap fun a => if a = L \/ a = d then none else (h.get? a).map fun o => (a, o)
end
end Att
namespace L2
open PySem PySem.Spec PyProof.Rows
theorem vals_ints : ∀ {vs : List Value} {ns : List Int}, IntsAre vs ns -> Vals (ns.map V.int) vs
  | _, _, .nil => .nil
  | _, _, .cons n t h => .cons ⟨t, rfl⟩ (vals_ints h)
noncomputable def Only (H : Hp) : Prop := ∀ b, H b = none \/ ∃ o xs, H b = some (.frz o (.lst xs))
theorem law_call {P : Program} {w : World} {K : PySem.W.Frag} {mg mb : Str -> Option Value} {CX : CXT} {k : Nat} {fa a : Addr} {fd : FuncData} {x : Str} {sp : Sp} {s₁ : Shared} {vs : List Value} {ns : List Int}
    (KX : K.In s₁.heap) (hns : s₁.heap.Ns mainGlobals mg) (hb : s₁.heap.Ns builtinsNs mb) (hbb : ∀ x : Str, x ≠ "__name__" -> mb x = bootBuiltins x) (hlim : s₁.heap.NoLimit) (hg : s₁.gens = #[])
    (ha : s₁.heap.get? a = some { cls := .type "list", data := .seq vs.toArray }) (hi : IntsAre vs ns) (hl : ns.length <= sizeLine) (hr : Room k callerA)
    (F : ∀ base : Heap, K.In base -> base.Ns mainGlobals mg -> FnOk P w K mg base CX k fa fd [x] sp) (hbind : ∀ (s : Shared) (u : Value), BindsTo s fd ⟨[u], []⟩ [(x, u)])
    (hsp : ∀ H : Hp, Only H -> SqL K H a (ns.map V.int) -> sp [.ref a] H (fun v _ => v = .bl true) fun _ _ _ => False)
    (hCX : ∀ H e s', CX [] H s₁ (fun _ _ _ => False) e s' -> False) :
    codeAny (model P w) callerA (.call (.ref fa) ⟨[.ref a], []⟩) (fun r s' => r = .ok (.ret (.bool true)) /\ OldK s₁.heap s'.heap /\ s'.os = s₁.os /\ AllBare s'.gens) s₁ := by
  have rv := vals_ints hi
  have lenV := hi.length
  -- from an abstract heap in which nothing but the script may be tracked
  have core : ∀ H : Hp, Only H -> SqL K H a (ns.map V.int) -> HOk P w H s₁.heap -> (∀ b, H b ≠ none -> b = a) -> (H a ≠ none -> K.lookup a = none) ->
      codeAny (model P w) callerA (.call (.ref fa) ⟨[.ref a], []⟩) (fun r s' => r = .ok (.ret (.bool true)) /\ OldK s₁.heap s'.heap /\ s'.os = s₁.os /\ AllBare s'.gens) s₁ := by
    intro H hO hS hok hA hK
    have base_of : ∀ {b : Addr} {o : Obj}, s₁.heap.get? b = some o -> H b = none -> (hidT s₁.heap H).get? b = some o := fun e n => hidT_get e n
    have noA : ∀ {b : Addr} {o : Obj} {es : Array DictEntry} {ep : Nat}, s₁.heap.get? b = some o -> o.data = .dict es ep -> H b = none := fun {b o es ep} e d => by
      cases q : H b with
      | none => rfl
      | some u =>
        have e' : b = a := hA b (by rw [q]; simp)
        subst e'
        rw [ha] at e; cases e
        have d' : Data.seq vs.toArray _ = Data.dict es ep := d
        cases d'
    have nsK : ∀ {b : Addr} {m : Str -> Option Value}, s₁.heap.Ns b m -> (hidT s₁.heap H).Ns b m := fun {b m} ⟨o, es, ep, e, d, r⟩ => ⟨o, es, ep, base_of e (noA e d), d, r⟩
    have hKb : K.In (hidT s₁.heap H) := fun b o e => base_of (KX b o e) (by
      cases q : H b with
      | none => rfl
      | some u =>
        have e' : b = a := hA b (by rw [q]; simp)
        subst e'
        rw [hK (by rw [q]; simp)] at e; cases e)
    have hM : Mod K mg (hidT s₁.heap H) := ⟨hKb, nsK hns, ⟨mb, nsK hb, hbb⟩, let ⟨mc, h1, h2⟩ := hlim; ⟨mc, nsK h1, h2⟩⟩
    have e0 : Env0 P w K mg (hidT s₁.heap H) callerA [] s₁ H := ⟨rfl, hM, fun b o e => of_hidT e, Nat.le_of_eq (hidT_size _ _), trivial, fun b hb => absurd (show b ∈ ([] : List Addr) from hb) (by simp), hok, .of_eq hg⟩
    refine codeAny_mono ((F _ hKb (nsK hns)).run callerA [] s₁ H ⟨[.ref a], []⟩ [.ref a] [.ref a] _ _ hr e0 (hbind s₁ (.ref a)) (.cons rfl .nil) (hsp H hO hS)) fun r s' h => ?_
    cases r with
    | error e => exact (hCX H e s' h).elim
    | ok fl =>
      cases fl with
      | next => exact False.elim h
      | brk => exact False.elim h
      | cont => exact False.elim h
      | ret u =>
        obtain ⟨v, H', os, bare, un, hok', r', q⟩ := h
        have q' : v = .bl true := q
        subst q'
        obtain rfl : u = Value.bool true := r'
        refine ⟨rfl, OldK.of_keep fun b o e => ?_, os, bare⟩
        cases q : H b with
        | none => exact un.keep b o e q (by intro z; exact absurd (show b ∈ ([] : List Addr) from z) (by simp)) (by simp)
        | some u =>
          rcases hO b with z | ⟨ob, xs, z⟩
          · rw [q] at z; cases z
          · have z2 := un.frzs b ob _ z
            obtain ⟨e1, _⟩ := hok b _ z
            obtain ⟨e2, _⟩ := hok' b _ z2
            rw [e] at e1; cases e1
            exact e2
  cases hk : K.lookup a with
  | some o =>
    -- the script is one of the module's own objects
    have e := KX a o hk
    rw [ha] at e
    cases e
    refine core (fun _ => none) (fun _ => .inl rfl) (.inr ⟨_, vs.toArray, _, hk, rfl, rfl, rfl, by rw [List.size_toArray, lenV]; exact hl, by simpa using rv⟩) (fun b u z => by have z' : (none : Option HO) = some u := z; cases z') (fun b z => absurd rfl z) fun z => absurd rfl z
  | none =>
    refine core (fun b => if b = a then some (.frz { cls := .type "list", data := .seq vs.toArray } (.lst (ns.map V.int))) else none) (fun b => ?_) (.inl (.inr ⟨{ cls := .type "list", data := .seq vs.toArray }, if_pos rfl⟩)) (fun b u z => ?_) (fun b z => ?_) fun _ => hk
    · by_cases hb : b = a
      · exact .inr ⟨_, _, if_pos hb⟩
      · exact .inl (if_neg hb)
    · by_cases hb : b = a
      · have z' := (if_pos hb).symm.trans z
        cases z'
        subst hb
        exact ⟨ha, by rw [List.length_map]; exact hl, vs, _, rv, ha⟩
      · have z' := (if_neg hb).symm.trans z
        cases z'
    · by_cases hb : b = a
      · exact hb
      · exact absurd (if_neg hb) z
end L2
namespace L2
open PySem PySem.Spec PyProof.Rows
noncomputable abbrev KOf {K : PySem.W.Frag} {h : Heap} (_ : K.In h) : PySem.W.Frag := K
theorem walk_of {l : PySem.W.OpenLaw} {n k : Nat} {q : Program} {loose : List Str} {XP : (Str -> Option Value) -> Heap -> Prop} {YP : World -> Heap -> Prop} {d : DefRec} {K : Params -> PySem.W.Frag} {CX : World -> CXT} {sp : World -> Sp} {x : Str}
    (hn : l.most = some n) (hn2 : n <= sizeLine) (hdf : d.params.defaults = []) (hr : Room k callerA)
    (hY : ∀ (w : World) (h : Heap), YP w h -> (K w.params).In h)
    (F : ∀ (w : World) (mg : Str -> Option Value) (fa : Addr) (h : Heap), (K w.params).In h -> h.Ns mainGlobals mg -> mg d.name = some (.ref fa) ->
      ∃ fd : FuncData, (∀ (s : Shared) (u : Value), BindsTo s fd ⟨[u], []⟩ [(x, u)]) /\
        ∀ base : Heap, (K w.params).In base -> base.Ns mainGlobals mg -> FnOk l.prog w (K w.params) mg base (CX w) k fa fd [x] (sp w))
    (hsp : ∀ (w : World) (H : Hp) (a : Addr) (ns : List Int), ns.length <= n -> Only H -> SqL (K w.params) H a (ns.map V.int) -> sp w [.ref a] H (fun v _ => v = .bl true) fun _ _ _ => False)
    (hCX : ∀ (w : World) (H : Hp) (s : Shared) (e : Value) (s' : Shared), CX w [] H s (fun _ _ _ => False) e s' -> False) :
    PySem.W.WalkO q loose XP YP l.row.toRowW d [] (fun f vs => PySem.call f vs) := by
  refine Att.attach_call hn hdf fun w s₀ s₁ mg mb fa o pm cd doc a vs ns G Y ho hd hcd hmg hobj hints hlen hg => ?_
  have KX := hY w _ Y
  obtain ⟨fd, hb, hF⟩ := F w mg fa _ KX G.T.g hmg
  exact law_call KX G.T.g G.T.b G.T.builtins G.T.nolimit hg hobj hints (Nat.le_trans hlen hn2) hr hF hb (fun H hO hS => hsp w H a ns hlen hO hS) fun H e s' => hCX w H s₁ e s'
end L2
/- THE LAST THEOREM (shape; LID, My.* are yours):
   My.Adr: a structure of the addresses that your layer names (classes, functions); My.Txt K t: a structure (Prop) of the equations over K;
   My.txt_mk : {K} {implicit addresses ..} (e1 : nsIn K mainGlobals "law" = some (some (.ref f))) (e2 : K.lookup f = some ⟨oc, od, .func (fnOf "law" "law" params body scope dV kV doc pm an cdv ct), sl⟩) (e3 : codeIn K cdv "law" = true) .. : ∃ t, My.Txt K t
set_option maxRecDepth 100000 in
set_option maxHeartbeats 0 in
theorem PySem.Challenge.cw_LID_holds : PySem.Challenge.rw_LID.Holds := by
  w_on; o_law; k_head; (case hw => w_witness2)
  k_fill
  refine L2.walk_of (l := PySem.Challenge.rw_LID) (n := 63) (k := 40) (x := "script") (CX := fun w => ..) (sp := fun _ => My.sp_law) rfl (by decide) rfl ⟨rfl, by decide, by decide⟩ (fun w h Y => PySem.W.kIn_of Y) ?F ?S ?C
  case F =>
    intro w mg fa h KX G hmg
    have T : ∃ t, My.Txt (L2.KOf KX) t := by
      dsimp only [L2.KOf]                          -- K must stand as «<heap const> w.params» for k_is
      refine' My.txt_mk ?e1 ?e2 ?e3 ..
      (case e1 => PySem.W.k_is)                    -- in the order: a name -> its address -> its object -> its parts
      (case e2 => PySem.W.k_is)
      ..
    obtain ⟨t, T⟩ := T
    have e0 := hmg.symm.trans (PySem.W.mg_of KX G T.law)
    cases e0                                       -- fa is the law's own address
    exact ⟨_, fun s u => .of_eq rfl, fun base kb nb => My.law_fn T kb nb⟩     -- if «.of_eq rfl» comes too early: refine' ⟨_, ?b, fun base kb nb => My.law_fn T kb nb⟩; exact fun s u => .of_eq rfl
  case S => exact fun w H a ns hl hO hS => ..
  case C => exact ..
(the tactic k_is has no namespace: write k_is) -/
namespace L2
open PySem PySem.Spec PyProof.Rows
noncomputable def defArgs (s : Stmt) : Arguments := match s with
  | .FunctionDef _ a _ _ _ _ _ _ _ _ => a
  | _ => { posonlyargs := [], args := [], vararg := none, kwonlyargs := [], kw_defaults := [], kwarg := none, defaults := [] }
noncomputable def defBody (s : Stmt) : List Stmt := match s with
  | .FunctionDef _ _ b _ _ _ _ _ _ _ => b
  | _ => []
noncomputable def defScope (s : Stmt) : Scope := match s with
  | .FunctionDef _ _ _ _ _ _ sc _ _ _ => sc
  | _ => { kind := .function, names := [], isGenerator := false, isCoroutine := false }
noncomputable abbrev CX0 : CXT := fun _ _ _ _ _ _ => False
noncomputable abbrev E0 : XK := fun _ _ _ => False
theorem pass0 {X : Cx} : Passes CX0 X E0 := fun _ _ _ _ _ _ _ h => h.elim
structure Fun (K : PySem.W.Frag) (x qual : Str) (st : Stmt) (f : Addr) (fd : FuncData) : Prop where
  ex : ∃ (oc : Value) (od : Option Addr) (kV doc pm : Value) (an : Option Addr) (cdv ct : Value) (osl : Array (Option Value)),
    fd = PySem.W.fnOf x qual (defArgs st) (defBody st) (defScope st) .none kV doc pm an cdv ct /\ K.lookup f = some ⟨oc, od, .func fd, osl⟩ /\ PySem.W.codeIn K cdv qual = true
  kp : PySem.W.keepIn K (.ref f) = true
section
variable {P : Program} {w : World} {K : PySem.W.Frag} {mg : Str -> Option Value} {base : Heap}
theorem Fun.ok {x qual : Str} {st : Stmt} {f : Addr} {fd : FuncData} {N ps : List Str} {k : Nat} {sp : Sp} (F : Fun K x qual st f fd) (S : FnScope N ps (defScope st)) (len : ∀ vs H Q E, sp vs H Q E -> vs.length = ps.length)
    (hbody : ∀ (cdv : Value) (A : Around) (outer : List Env) (s : Shared) (H : Hp) (vs : List V) (Q : VK) (E : XK), Room k (A.deeper (envOfC qual (defScope st) s.heap.objs.size f cdv)) -> sp vs H Q E ->
      ∃ t, PSs (cxOf CX0 P w K mg base N qual (defScope st) f cdv A outer s H E).nox (defBody st) t /\ t { nx := fun _ H' => Q .non H', rt := Q } (start N vs) H) : FnOk P w K mg base CX0 (k + 1) f fd ps sp := by
  obtain ⟨oc, od, kV, doc, pm, an, cdv, ct, osl, rfl, lk, hcd⟩ := F.ex
  refine fn_of lk hcd S len fun A outer s H vs Q E hr hsp => ?_
  obtain ⟨t, h, q⟩ := hbody cdv A outer s H vs Q E hr hsp
  exact ⟨t, h.nox, q⟩
theorem Fun.binds {x qual : Str} {st : Stmt} {f : Addr} {fd : FuncData} {ps : List Str} (F : Fun K x qual st f fd)
    (h : ∀ (kV doc pm : Value) (an : Option Addr) (cdv ct : Value) (us : List Value), us.length = ps.length -> bindArgs (PySem.W.fnOf x qual (defArgs st) (defBody st) (defScope st) .none kV doc pm an cdv ct) ⟨us, []⟩ = pure (ps.zip us)) : Binds K fd ps [] := by
  obtain ⟨oc, od, kV, doc, pm, an, cdv, ct, osl, rfl, lk, hcd⟩ := F.ex
  exact .all (h kV doc pm an cdv ct)
theorem fun_mk {x qual : Str} {st : Stmt} {f : Addr} {oc : Value} {od an : Option Addr} {osl : Array (Option Value)} {kV doc pm cdv ct : Value} (l : K.lookup f = some ⟨oc, od, .func (PySem.W.fnOf x qual (defArgs st) (defBody st) (defScope st) .none kV doc pm an cdv ct), osl⟩)
    (c : PySem.W.codeIn K cdv qual = true) (k : PySem.W.keepIn K (.ref f) = true) : Fun K x qual st f (PySem.W.fnOf x qual (defArgs st) (defBody st) (defScope st) .none kV doc pm an cdv ct) := ⟨⟨oc, od, kV, doc, pm, an, cdv, ct, osl, rfl, l, c⟩, k⟩
end
section
variable {X : Cx}
theorem pv (i : Nat) {x : Str} {pos : Pos} (hN : X.N[i]? = some x := by rfl) (hv : Vis X.env.scope x := by first | exact Or.inl rfl | exact Or.inr (Or.inl rfl) | exact Or.inr (Or.inr rfl)) (hd : (x == ("__debug__" : Str)) = false := by decide)
    (hcd : (x == ("__classdict__" : Str)) = false := by decide) : PE X (.Name x pos) (tVar i) := pe_var hN hv hd hcd
end
theorem iteF {A B : Prop} (h : B) : if false = true then A else B := by
  rw [if_neg Bool.false_ne_true]
  exact h
theorem iteT {A B : Prop} (h : A) : if true = true then A else B := by
  rw [if_pos rfl]
  exact h
theorem ite2 {c A B : Prop} [Decidable c] (h1 : c -> A) (h2 : ¬ c -> B) : if c then A else B := by
  by_cases h : c
  · rw [if_pos h]
    exact h1 h
  · rw [if_neg h]
    exact h2 h
noncomputable def Same (H H' : Hp) : Prop := ∀ b o, H b = some o -> H' b = some o
theorem Same.refl (H : Hp) : Same H H := fun _ _ h => h
theorem Same.trans {H H1 H2 : Hp} (a : Same H H1) (b : Same H1 H2) : Same H H2 := fun c o h => b c o (a c o h)
theorem Same.free {H H' : Hp} (e : Same H H') {l : Addr} (h : H' l = Option.none) : H l = Option.none := by
  cases q : H l with
  | none => rfl
  | some o =>
    rw [e l o q] at h
    cases h
theorem Same.seq {K : PySem.W.Frag} {H H' : Hp} {a : Addr} {xs : List V} (e : Same H H') (h : SqL K H a xs) : SqL K H' a xs := by
  rcases h with (h | ⟨o, h⟩) | h
  · exact .inl (.inl (e _ _ h))
  · exact .inl (.inr ⟨o, e _ _ h⟩)
  · exact .inr h
end L2
namespace L2
open PySem PySem.Spec PyProof.Rows
noncomputable def clOf (env : Env) : List (Str × NameKind) -> List (Str × Addr) -> List (Str × Addr)
  | [], acc => acc
  | (n, k) :: r, acc => clOf env r (if k == .free then (match env.cells.lookup n with | some a => (n, a) :: acc | none => acc) else acc)
theorem closureFor_loop {env : Env} : ∀ (names : List (Str × NameKind)) (acc : List (Str × Addr)), (∀ y ∈ names, y.2 = .free -> ∃ c, env.cells.lookup y.1 = some c) ->
    (forIn names acc fun (x : Str × NameKind) (cs : List (Str × Addr)) => (if (x.2 == NameKind.free) = true then do let a <- cellOf env x.1; pure (ForInStep.yield ((x.1, a) :: cs)) else pure (ForInStep.yield cs) : Sem (ForInStep (List (Str × Addr))))) = pure (clOf env names acc)
  | [], acc, _ => rfl
  | (n, k) :: r, acc, h => by
    rw [List.forIn_cons]
    have hr : ∀ y ∈ r, y.2 = .free -> ∃ c, env.cells.lookup y.1 = some c := fun y hy => h y (List.mem_cons_of_mem _ hy)
    cases hk : (k == NameKind.free) with
    | false =>
      have e1 : clOf env ((n, k) :: r) acc = clOf env r acc := by
        show clOf env r (if (k == NameKind.free) = true then (match env.cells.lookup n with | some a => (n, a) :: acc | none => acc) else acc) = _
        rw [hk, if_neg Bool.false_ne_true]
      rw [e1, <- closureFor_loop r acc hr]
      simp only [hk, Bool.false_eq_true, if_false, pure_bind]
    | true =>
      obtain ⟨c, hc⟩ := h (n, k) List.mem_cons_self (by simpa using hk)
      have e1 : clOf env ((n, k) :: r) acc = clOf env r ((n, c) :: acc) := by
        have hc' : env.cells.lookup n = some c := hc
        show clOf env r (if (k == NameKind.free) = true then (match env.cells.lookup n with | some a => (n, a) :: acc | none => acc) else acc) = _
        rw [hk, hc', if_pos rfl]
      have e2 : cellOf env n = pure c := by
        have hc' : env.cells.lookup n = some c := hc
        unfold cellOf
        rw [hc']
      rw [e1, <- closureFor_loop r ((n, c) :: acc) hr]
      simp only [hk, if_true, e2, pure_bind]
theorem closureFor_cl {scope : Scope} {env : Env} (h : ∀ y ∈ scope.names, y.2 = .free -> ∃ c, env.cells.lookup y.1 = some c) : closureFor scope env = pure (clOf env scope.names []) := by
  have e := closureFor_loop scope.names [] h
  simp only [closureFor]
  rw [e]
  rfl
theorem clOf_from {env : Env} {x : Str} {c : Addr} : ∀ (names : List (Str × NameKind)) (acc : List (Str × Addr)), (∀ y d, acc.lookup y = some d -> env.cells.lookup y = some d) -> (clOf env names acc).lookup x = some c -> env.cells.lookup x = some c
  | [], acc, ha, h => ha x c h
  | (n, k) :: r, acc, ha, h => by
    refine clOf_from r _ (fun y d q => ?_) h
    by_cases hk : (k == NameKind.free) = true
    · rw [if_pos hk] at q
      cases e : env.cells.lookup n with
      | none => rw [e] at q; exact ha y d q
      | some a =>
        rw [e] at q
        have q' : List.lookup y ((n, a) :: acc) = some d := q
        rw [List.lookup_cons] at q'
        cases hy : (y == n) with
        | true =>
          rw [hy] at q'
          have : y = n := by simpa using hy
          subst this
          rw [e]; exact q'
        | false => rw [hy] at q'; exact ha y d q'
    · rw [if_neg hk] at q; exact ha y d q
theorem clOf_acc {env : Env} {x : Str} : ∀ (names : List (Str × NameKind)) (acc : List (Str × Addr)), (∃ c, acc.lookup x = some c) -> ∃ c, (clOf env names acc).lookup x = some c
  | [], acc, h => h
  | (n, k) :: r, acc, ⟨c, hc⟩ => by
    refine clOf_acc r _ ?_
    by_cases hk : (k == NameKind.free) = true
    · rw [if_pos hk]
      cases e : env.cells.lookup n with
      | none => exact ⟨c, hc⟩
      | some a =>
        show ∃ c, List.lookup x ((n, a) :: acc) = some c
        rw [List.lookup_cons]
        cases hy : (x == n) with
        | true => exact ⟨a, rfl⟩
        | false => exact ⟨c, hc⟩
    · rw [if_neg hk]; exact ⟨c, hc⟩
theorem clOf_has {env : Env} {x : Str} : ∀ (names : List (Str × NameKind)) (acc : List (Str × Addr)), (∀ y ∈ names, y.2 = .free -> ∃ c, env.cells.lookup y.1 = some c) -> names.lookup x = some .free -> ∃ c, (clOf env names acc).lookup x = some c
  | [], acc, _, h => by simp at h
  | (n, k) :: r, acc, hf, h => by
    have hr : ∀ y ∈ r, y.2 = .free -> ∃ c, env.cells.lookup y.1 = some c := fun y hy => hf y (List.mem_cons_of_mem _ hy)
    rw [List.lookup_cons] at h
    cases hy : (x == n) with
    | true =>
      rw [hy] at h
      have hk : k = .free := Option.some.inj h
      subst hk
      have hx : x = n := by simpa using hy
      subst hx
      obtain ⟨c, hc⟩ := hf (x, .free) List.mem_cons_self rfl
      have hc' : env.cells.lookup x = some c := hc
      refine clOf_acc r _ ⟨c, ?_⟩
      rw [if_pos (show (NameKind.free == NameKind.free) = true by decide), hc']
      show List.lookup x ((x, c) :: acc) = some c
      rw [List.lookup_cons]
      simp
    | false =>
      rw [hy] at h
      exact clOf_has r _ hr h
theorem relabel_free {env : Env} : ∀ {names : List (Str × NameKind)} {x : Str}, names.lookup x = some .free ->
    ((names.map fun (n, k) => if (k == NameKind.free && env.scope.kind == .function && env.kindOf n == some .cell) then (n, NameKind.cell) else (n, k)).lookup x = some .cell \/
     (names.map fun (n, k) => if (k == NameKind.free && env.scope.kind == .function && env.kindOf n == some .cell) then (n, NameKind.cell) else (n, k)).lookup x = some .free)
  | [], _, h => by simp at h
  | (n, k) :: r, x, h => by
    have ih := @relabel_free env r x
    show (List.lookup x ((if (k == NameKind.free && env.scope.kind == .function && env.kindOf n == some .cell) = true then (n, NameKind.cell) else (n, k)) :: _) = _ \/ List.lookup x ((if (k == NameKind.free && env.scope.kind == .function && env.kindOf n == some .cell) = true then (n, NameKind.cell) else (n, k)) :: _) = _)
    cases hx : x == n with
    | true =>
      simp only [List.lookup_cons, hx] at h
      cases h
      by_cases hc : ((NameKind.free == NameKind.free) && env.scope.kind == .function && env.kindOf n == some .cell) = true
      · rw [if_pos hc]; simp [List.lookup_cons, hx]
      · rw [if_neg hc]; simp [List.lookup_cons, hx]
    | false =>
      simp only [List.lookup_cons, hx] at h
      by_cases hc : (k == NameKind.free && env.scope.kind == .function && env.kindOf n == some .cell) = true
      · rw [if_pos hc]; simp only [List.lookup_cons, hx]; exact ih h
      · rw [if_neg hc]; simp only [List.lookup_cons, hx]; exact ih h
theorem relabel_back {env : Env} : ∀ {names : List (Str × NameKind)} {x : Str}, (∀ y ∈ names, y.2 ≠ .cell) ->
    ((names.map fun (n, k) => if (k == NameKind.free && env.scope.kind == .function && env.kindOf n == some .cell) then (n, NameKind.cell) else (n, k)).lookup x = some .cell \/
     (names.map fun (n, k) => if (k == NameKind.free && env.scope.kind == .function && env.kindOf n == some .cell) then (n, NameKind.cell) else (n, k)).lookup x = some .free) -> names.lookup x = some .free
  | [], _, _, h => by simp at h
  | (n, k) :: r, x, hn, h => by
    have ih := @relabel_back env r x (fun y hy => hn y (List.mem_cons_of_mem _ hy))
    have hk := hn (n, k) List.mem_cons_self
    have h' : (List.lookup x ((if (k == NameKind.free && env.scope.kind == .function && env.kindOf n == some .cell) = true then (n, NameKind.cell) else (n, k)) :: (r.map fun (n, k) => if (k == NameKind.free && env.scope.kind == .function && env.kindOf n == some .cell) then (n, NameKind.cell) else (n, k))) = some .cell \/ List.lookup x ((if (k == NameKind.free && env.scope.kind == .function && env.kindOf n == some .cell) = true then (n, NameKind.cell) else (n, k)) :: (r.map fun (n, k) => if (k == NameKind.free && env.scope.kind == .function && env.kindOf n == some .cell) then (n, NameKind.cell) else (n, k))) = some .free) := h
    cases hx : x == n with
    | true =>
      rw [List.lookup_cons, hx]
      by_cases hc : (k == NameKind.free && env.scope.kind == .function && env.kindOf n == some .cell) = true
      · have : (k == NameKind.free) = true := by
          rw [Bool.and_eq_true, Bool.and_eq_true] at hc; exact hc.1.1
        have hk' : k = .free := by simpa using this
        rw [hk']
      · rw [if_neg hc] at h'
        simp only [List.lookup_cons, hx] at h'
        rcases h' with h' | h'
        · exact absurd (Option.some.inj h') hk
        · exact h'
    | false =>
      rw [List.lookup_cons, hx]
      by_cases hc : (k == NameKind.free && env.scope.kind == .function && env.kindOf n == some .cell) = true
      · rw [if_pos hc] at h'; simp only [List.lookup_cons, hx] at h'; exact ih h'
      · rw [if_neg hc] at h'; simp only [List.lookup_cons, hx] at h'; exact ih h'
noncomputable abbrev noE : Value -> Shared -> Prop := fun _ _ => False
theorem compLoop_gen {prog : Program} {w : World} {A : Around} {R : Result -> Shared -> Prop} {s : Shared} {elt target iter : Expr} {ifs : List Expr} {scope : Scope} {pos : Pos} {it acc : Value} {env : Env} (I : Nat -> Shared -> Prop)
    (turn : ∀ n s, I n s -> wpAny (model prog w) A (pyNext it) (fun r s₁ => match r with
      | none => R (.ok .next) s₁
      | some v => wpAny (model prog w) A (letOwnedTupleGo target it v) (fun _ s₁' => wpAny (model prog w) A (assign target env v) (fun _ s₂ =>
          wpAny (model prog w) A (forIn ifs true fun c r => if r = true then do let ok <- isTrue c env (eval c env); pure (ForInStep.yield ok) else pure (ForInStep.yield r)) (fun ok s₃ =>
            if ok = true then wpAny (model prog w) A (eval elt env) (fun x s₄ =>
              wpAny (model prog w) A (call (.builtin "list.append") [acc, x]) (fun _ s₅ => ∃ m, m < n /\ I m s₅) noE s₄) noE s₃
            else ∃ m, m < n /\ I m s₃) noE s₂) noE s₁') noE s₁) noE s)
    (n : Nat) (h : I n s) : codeAny (model prog w) A (.compLoop (.ListComp elt [⟨target, iter, ifs, 0⟩] scope pos) 0 it acc env) R s := by
  refine codeAny_loop rfl I (fun n s hI => ?_) n h
  show wpAny _ A ((compTurn (.ListComp elt [⟨target, iter, ifs, 0⟩] scope pos) 0 it acc env).onRaise (fun x => do noteFrame x env; theTreesLotGoes x)) _ _ s
  refine wpAny_noted ?_
  rw [compTurn_list]
  have no : ∀ {F : Value -> Shared -> Prop} (e : Value) (s' : Shared), noE e s' -> F e s' := fun _ _ h => h.elim
  refine wpAny_bind (wpAny_standAt (wpAny_bind (wpAny_mono (turn n s hI) (fun r s₁ h₁ => ?_) no)))
  cases r with
  | none => exact wpAny_pure h₁
  | some v =>
    refine wpAny_bind (wpAny_mono h₁ (fun _ s₁' h₁' => ?_) no)
    refine wpAny_bind (wpAny_mono h₁' (fun _ s₂ h₂ => wpAny_bind (wpAny_mono h₂ (fun ok s₃ h₃ => ?_) no)) no)
    cases ok with
    | false => exact wpAny_pure ⟨rfl, h₃⟩
    | true =>
      exact wpAny_bind (wpAny_bind (wpAny_mono h₃ (fun x s₄ h₄ => wpAny_bind (wpAny_mono h₄ (fun _ s₅ h₅ => wpAny_pure (wpAny_pure ⟨rfl, h₅⟩)) no)) no))
noncomputable def cxComp (X : Cx) (scope : Scope) (C : Addr) (Nc : List Str) (s : Shared) (H : Hp) (fp : List Addr) : Cx where
  prog := X.prog
  w := X.w
  K := X.K
  mg := X.mg
  base := X.base
  A := X.A
  N := Nc
  s₀ := s
  H₀ := H
  env := compEnvC scope (clOf X.env scope.names []) C X.env
  outer := X.stack
  stack := X.stack
  ex := fp
  fn := fun _ => false
  calm := X.calm
  pn := []
  xe := noE
noncomputable def IxOk (X : Cx) (scope : Scope) : List Str -> List (Option Nat) -> Prop
  | [], [] => True
  | _ :: ys, none :: os => IxOk X scope ys os
  | y :: ys, some j :: os => (X.N[j]? = some y /\ scope.names.lookup y = some .free /\ (X.env.kindOf y = some .cell \/ X.env.kindOf y = some .free)) /\ IxOk X scope ys os
  | _, _ => False
noncomputable def subSt (σ : St) (ix : List (Option Nat)) : St := ix.map fun o => match o with | none => none | some j => (σ[j]?).getD none
noncomputable def Wk : St -> St -> Prop
  | [], [] => True
  | none :: a, _ :: b => Wk a b
  | some v :: a, w :: b => w = some v /\ Wk a b
  | _, _ => False
theorem Wk.len : ∀ {a b : St}, Wk a b -> a.length = b.length
  | [], [], _ => rfl
  | none :: a, _ :: b, h => congrArg (· + 1) (Wk.len (a := a) (b := b) h)
  | some _ :: a, _ :: b, h => congrArg (· + 1) (Wk.len (a := a) (b := b) h.2)
theorem Wk.get : ∀ {a b : St} {i : Nat} {v : V}, Wk a b -> a[i]? = some (some v) -> b[i]? = some (some v)
  | [], [], i, v, _, h => by simp at h
  | none :: a, x :: b, 0, v, _, h => by simp at h
  | none :: a, x :: b, i + 1, v, k, h => by
    have := Wk.get (a := a) (b := b) (i := i) (v := v) k (by simpa using h)
    simpa using this
  | some y :: a, x :: b, 0, v, k, h => by
    have e : y = v := by simpa using h
    subst e
    simp [k.1]
  | some y :: a, x :: b, i + 1, v, k, h => by
    have := Wk.get (a := a) (b := b) (i := i) (v := v) k.2 (by simpa using h)
    simpa using this
theorem IxOk.len {X : Cx} {scope : Scope} : ∀ {N : List Str} {ix : List (Option Nat)}, IxOk X scope N ix -> ix.length = N.length
  | [], [], _ => rfl
  | _ :: ys, none :: os, h => congrArg (· + 1) (IxOk.len (N := ys) (ix := os) h)
  | _ :: ys, some _ :: os, h => congrArg (· + 1) (IxOk.len (N := ys) (ix := os) h.2)
theorem IxOk.get {X : Cx} {scope : Scope} : ∀ {N : List Str} {ix : List (Option Nat)} {i j : Nat}, IxOk X scope N ix -> ix[i]? = some (some j) -> ∃ y, N[i]? = some y /\ X.N[j]? = some y /\ scope.names.lookup y = some .free /\ (X.env.kindOf y = some .cell \/ X.env.kindOf y = some .free)
  | [], [], i, j, _, h => by simp at h
  | y :: ys, none :: os, 0, j, _, h => by simp at h
  | y :: ys, none :: os, i + 1, j, k, h => by
    obtain ⟨z, h1, h2⟩ := IxOk.get (N := ys) (ix := os) (i := i) (j := j) k (by simpa using h)
    exact ⟨z, by simpa using h1, h2⟩
  | y :: ys, some j' :: os, 0, j, k, h => by
    have e : j' = j := by simpa using h
    subst e
    exact ⟨y, by simp, k.1⟩
  | y :: ys, some j' :: os, i + 1, j, k, h => by
    obtain ⟨z, h1, h2⟩ := IxOk.get (N := ys) (ix := os) (i := i) (j := j) k.2 (by simpa using h)
    exact ⟨z, by simpa using h1, h2⟩
theorem subSt_get {σ : St} {ix : List (Option Nat)} {i : Nat} {v : V} (h : (subSt σ ix)[i]? = some (some v)) : ∃ j, ix[i]? = some (some j) /\ σ[j]? = some (some v) := by
  unfold subSt at h
  rw [List.getElem?_map] at h
  cases e : ix[i]? with
  | none => rw [e] at h; cases h
  | some o =>
    rw [e] at h
    cases o with
    | none => cases h
    | some j =>
      refine ⟨j, rfl, ?_⟩
      have h' : some ((σ[j]?).getD none) = some (some v) := h
      cases q : σ[j]? with
      | none => rw [q] at h'; cases h'
      | some z => rw [q] at h'; cases h'; rfl
end L2
namespace L2
open PySem PySem.Spec PyProof.Rows
theorem comp_start {X : Cx} {pins : List (Addr × Obj)} {σ : St} {H : Hp} {s : Shared} (I : Inv X pins σ H s) {scope : Scope} {Nc : List Str} {ix : List (Option Nat)} (hix : IxOk X scope Nc ix) (hcell : ∀ y ∈ scope.names, y.2 ≠ .cell)
    (hkind : scope.kind = .function) (hfr : ∀ y ∈ scope.names, y.2 = .free -> X.env.kindOf y.1 = some .cell \/ X.env.kindOf y.1 = some .free) {fp : List Addr} (hf : ∀ b ∈ fp, FpOk X pins H b) (hfo : ∀ b ∈ fp, ∃ o, s.heap.get? b = some o)
    {C : Addr} {h' : Heap} {t' : Nat} {m0 : Str -> Option Value} (hC : s.heap.objs.size <= C) (hns : h'.Ns C m0) (k : ∀ b o, s.heap.get? b = some o -> h'.get? b = some o) :
    Inv (cxComp X scope C Nc s H fp) [] (subSt σ ix) H { s with heap := h', toks := t' } := by
  have hfc : ∀ y ∈ scope.names, y.2 = .free -> ∃ c, X.env.cells.lookup y.1 = some c := fun y hy e => I.ok.has y.1 (hfr y hy e)
  have from_ : ∀ {x : Str} {c : Addr}, (clOf X.env scope.names []).lookup x = some c -> X.env.cells.lookup x = some c := fun {x c} e => clOf_from scope.names [] (fun y d q => by simp at q) e
  refine ⟨⟨I.ok.mod, hkind, I.ok.glob, I.ok.blt, hC, fun x y c h1 h2 => I.ok.inj x y c (from_ h1) (from_ h2), fun x hx => ?_, fun x c h => ?_, I.ok.hd, I.ok.frames, .inl rfl, fun b hb => ?_, I.bs, Nat.le_trans I.ok.bsz I.sz, fun b o e hb => ?_, fun b hb hs => ?_, I.stack, I.stkFree⟩,
    rfl, I.bare, Un.kept k, ⟨m0, hns, fun i x v h1 h2 h3 => ?_⟩, fun x c e => ?_, I.hok.fresh hC, fun x c e => I.freeC x c (from_ e), fun p hp => absurd (show p ∈ ([] : List (Addr × Obj)) from hp) (by simp), I.hok.kept k, ?_⟩
  · have hx' : scope.names.lookup x = some .free := relabel_back hcell hx
    exact clOf_has scope.names [] hfc hx'
  · exact absurd (show false = true from h) (by decide)
  · refine ⟨?_, fun x c e => (hf b hb).2.2.2.2.1 x c (from_ e)⟩
    obtain ⟨o, ho⟩ := hfo b hb
    exact Nat.ne_of_lt (Nat.lt_of_lt_of_le (Heap.lt_size ho) hC)
  · rcases (hf b hb).2.2.2.1 with z | z
    · exact I.ok.noex b o e z
    · exact absurd (Nat.lt_of_lt_of_le (Heap.lt_size e) (Nat.le_trans I.ok.bsz z)) (Nat.lt_irrefl _)
  · rcases List.mem_cons.mp (I.stkSub b hs) with z | z
    · exact (hf b hb).2.1 z
    · exact (hf b hb).2.2.1 z
  · obtain ⟨j, e1, e2⟩ := subSt_get h2
    obtain ⟨y, y1, y2, y3, y4⟩ := hix.get e1
    have h1' : Nc[i]? = some x := h1
    rw [y1] at h1'
    cases h1'
    obtain ⟨m, hn, hl⟩ := I.loc
    have hv : Vis X.env.scope x := by
      rcases y4 with z | z
      · exact .inr (.inl z)
      · exact .inr (.inr z)
    obtain ⟨u, r, l⟩ := hl j x v y2 e2 hv
    refine ⟨u, r, .inr ⟨relabel_free y3, ?_⟩⟩
    rcases l with ⟨l, _⟩ | ⟨_, c, hc, q⟩
    · rcases y4 with z | z
      · rw [z] at l; cases l
      · rw [z] at l; cases l
    · obtain ⟨c', hc'⟩ := clOf_has scope.names [] hfc y3
      have e := from_ hc'
      rw [hc] at e
      cases e
      obtain ⟨o, ho, hd⟩ := q
      exact ⟨c, hc', o, k _ _ ho, hd⟩
  · obtain ⟨v, o, ho, hd⟩ := I.cell x c (from_ e)
    exact ⟨v, o, k _ _ ho, hd⟩
  · show (subSt σ ix).length = Nc.length
    unfold subSt
    rw [List.length_map]
    exact hix.len
theorem comp_exit {X : Cx} {pins pins' : List (Addr × Obj)} {σ σ' : St} {H H' : Hp} {s s' : Shared} (I : Inv X pins σ H s) {scope : Scope} {Nc : List Str} {fp : List Addr} {C D : Addr} (J : Inv (cxComp X scope C Nc s H fp) pins' σ' H' s')
    (hf : ∀ b ∈ fp, FpOk X pins H b) (hD : s.heap.objs.size <= D) (hC : s.heap.objs.size <= C) (hDC : D ≠ C) {its : List Value} {n : Nat} {acc : List V} (eD : s'.heap.get? D = some { cls := .type "list", data := .seq its.toArray n }) (r : Vals acc its)
    (hz : acc.length <= sizeLine) (nD : H' D = none) {oC : Obj} (eC : s'.heap.get? C = some oC) (dC : ∀ v, oC.data ≠ .cell v) : Inv X (pins ++ [(C, oC)]) σ (upd H' D (.lst acc)) s' := by
  have lt : ∀ b o, s.heap.get? b = some o -> b ≠ D := fun b o e => Nat.ne_of_lt (Nat.lt_of_lt_of_le (Heap.lt_size e) hD)
  have U : Un (frs X.stack) fp H H' s.heap s'.heap := J.base
  have U' : Un (frs X.stack) fp H (upd H' D (.lst acc)) s.heap s'.heap :=
    ⟨U.keep, U.slot, fun b o e n hx => by rw [upd_ne (lt b o e)]; exact U.free b o e n hx, U.there, fun b xs e => by rw [upd_ne (ne_of_none (U.tups b xs e) nD)]; exact U.tups b xs e,
      fun b o u e => by rw [upd_ne (ne_of_none (U.frzs b o u e) nD)]; exact U.frzs b o u e, fun b ps e => by
        obtain ⟨more, q⟩ := U.tbls b ps e
        exact ⟨more, by rw [upd_ne (ne_of_none q nD)]; exact q⟩⟩
  have hok : HOk X.prog X.w (upd H' D (.lst acc)) s'.heap := fun b u e => by
    by_cases hb : b = D
    · subst hb
      rw [upd_same] at e; cases e
      exact ⟨hz, its, n, r, eD⟩
    · rw [upd_ne hb] at e
      exact (J.hok b u e).stay (fun c v _ q => q) (fun c q => by rw [upd_ne (ne_of_none q nD)]; exact q) fun c xs q => by rw [upd_ne (ne_of_none q nD)]; exact q
  have I' : Inv X pins σ (upd H' D (.lst acc)) s' := I.call' (ch := fp) J.os U' hok J.bare fun b hb => by
    obtain ⟨_, h1, _, h2, h3, h4⟩ := hf b hb
    exact ⟨h2, h1, h3, h4⟩
  refine I'.pins_of fun p hp => ?_
  rcases List.mem_append.mp hp with z | z
  · exact I'.pin p (List.mem_append_right _ z)
  · have e : p = (C, oC) := List.mem_singleton.mp z
    subst e
    refine ⟨eC, ?_, Nat.ne_of_gt (Nat.lt_of_lt_of_le I.lt hC), I.nofs hC, dC⟩
    rw [upd_ne (Ne.symm hDC)]
    exact J.free
noncomputable def PF (Y : Cx) (ifs : List Expr) (tc : TT) : Prop :=
  ∀ (pins : List (Addr × Obj)) (s : Shared) (σ : St) (H : Hp) (Q : Bool -> Hp -> Prop), Inv Y pins σ H s -> tc σ H Q ->
    wpAny (model Y.prog Y.w) Y.A (forIn ifs true fun c r => if r = true then do let ok <- isTrue c Y.env (eval c Y.env); pure (ForInStep.yield ok) else pure (ForInStep.yield r)) (TP Y pins σ Q) Y.xe s
noncomputable def tYes : TT := fun _ H Q => Q true H
theorem pf_nil {Y : Cx} : PF Y [] tYes := fun _ _ _ H _ I h => wpAny_tests_nil ⟨H, I, h⟩
noncomputable def CompW (J : It) (σc : St) (g : TG) (tc : TT) (te : TE) (Q : VK) (H1 : Hp) : Prop :=
  ∃ W : Nat -> Nat -> List V -> Hp -> Prop, (∃ m, W 0 m [] H1) /\ ∀ i m acc H, W i m acc H -> acc.length < sizeLine /\
  ((J.stop i H /\ ∀ D, H D = none -> Q (.ref D) (upd H D (.lst acc))) \/
   (J.go i H /\ ∀ x H', J.yld i H x H' -> g x σc H' fun σ2 H2 => Wk σc σ2 /\ tc σ2 H2 fun b H3 => if b = true then te σ2 H3 fun v H4 => ∃ m', m' < m /\ W (i + 1) m' (acc ++ [v]) H4 else ∃ m', m' < m /\ W (i + 1) m' acc H3))
noncomputable def tComp (wi : TI) (ix : List (Option Nat)) (g : TG) (tc : TT) (te : TE) : TE := fun σ H Q => wi σ H fun J H1 => CompW J (subSt σ ix) g tc te Q H1
theorem comp_core {X : Cx} {tg iter elt : Expr} {ifs : List Expr} {scope : Scope} {pos : Pos} {wi : TI} {g : TG} {tc : TT} {te : TE} {Nc : List Str} {ix : List (Option Nat)} (hi : PI X tg iter wi) (hcalm : X.calm = true) (hix : IxOk X scope Nc ix)
    (hcell : ∀ y ∈ scope.names, y.2 ≠ .cell) (hkind : scope.kind = .function) (hfr : ∀ y ∈ scope.names, y.2 = .free -> X.env.kindOf y.1 = some .cell \/ X.env.kindOf y.1 = some .free)
    (hG : ∀ C s H fp, PG (cxComp X scope C Nc s H fp) tg g) (hT : ∀ C s H fp, PF (cxComp X scope C Nc s H fp) ifs tc) (hE : ∀ C s H fp, PE (cxComp X scope C Nc s H fp) elt te)
    {pins : List (Addr × Obj)} {s : Shared} {σ : St} {H : Hp} {Q : VK} (I : Inv X pins σ H s) (h : tComp wi ix g tc te σ H Q) {RR : Value -> Addr -> Result -> Shared -> Prop}
    (hRR : ∀ (D C : Addr) (oC : Obj) (m : Str -> Option Value) (H' : Hp) (s' : Shared), s'.heap.get? C = some oC -> s'.heap.Ns C m -> FpOk X pins H' C -> Inv X (pins ++ [(C, oC)]) σ H' s' -> Q (.ref D) H' -> RR (.ref D) C (.ok .next) s') :
    wpAny (model X.prog X.w) X.A (eval iter X.env) (fun v s1 => wpAny (model X.prog X.w) X.A (pyIter v) (fun it s2 => wpAny (model X.prog X.w) X.A (newList []) (fun acc s3 =>
      wpAny (model X.prog X.w) X.A (newFunctionEnv scope X.env.globals (clOf X.env scope.names []) [] X.env.qual none .none (some X.env)) (fun cenv s4 =>
        codeAny (model X.prog X.w) X.A (.compStart (.ListComp elt [⟨tg, iter, ifs, 0⟩] scope pos) 0 it acc { cenv with scope := relabel scope X.env }) (RR acc cenv.locals) s4) X.xe s3) X.xe s2) X.xe s1) X.xe s := by
  refine thn (hi pins s σ H _ I h) fun v s1 h1 => thn h1 fun itv s2 h2 => ?_
  obtain ⟨it, fp, tn, J, H2, e, I2, T, st2, f2, W, ⟨m0, w0⟩, turn⟩ := h2
  subst e
  refine wpAny_newObj_type (wpAny_newFunctionEnv hcell (by intro y hy; simp at hy) (fun h₁ hns₁ hsb₁ => ?_) hkind)
  dsimp only at hns₁ hsb₁ ⊢
  generalize hH2 : s2.heap.push { cls := .type "list", dict := none, data := .seq ([] : List Value).toArray } = P2 at hns₁ hsb₁ ⊢
  have hC : P2.objs.size = s2.heap.objs.size + 1 := by rw [<- hH2, Heap.size_push]
  have hDC : s2.heap.objs.size ≠ P2.objs.size := by rw [hC]; exact Nat.ne_of_lt (Nat.lt_succ_self _)
  have hCle : s2.heap.objs.size <= P2.objs.size := by rw [hC]; exact Nat.le_succ _
  have neC : ∀ b, b < s2.heap.objs.size -> b ≠ P2.objs.size := fun b hb => by rw [hC]; exact Nat.ne_of_lt (Nat.lt_succ_of_lt hb)
  have old : ∀ b o, s2.heap.get? b = some o -> h₁.get? b = some o := fun b o e => hsb₁.extBut b o (neC b (Heap.lt_size e)) (Heap.get?_push_of_some _ (hH2 ▸ Heap.get?_push_of_some _ e))
  have hacc : h₁.get? s2.heap.objs.size = some { cls := .type "list", data := .seq ([] : List Value).toArray } := hsb₁.extBut _ _ hDC (Heap.get?_push_of_some _ (hH2 ▸ Heap.get?_push_size _ rfl))
  have st₁ : tn 0 h₁ := T.keep 0 _ _ st2 fun b _ o e => old b o e
  have hfo : ∀ b ∈ fp, ∃ o, s2.heap.get? b = some o := fun b hb => let ⟨o, e, _⟩ := T.obj 0 _ st2 b hb; ⟨o, e⟩
  have fpD : ∀ b ∈ fp, s2.heap.objs.size ≠ b := fun b hb => let ⟨o, e⟩ := hfo b hb; Nat.ne_of_gt (Heap.lt_size e)
  have IY := comp_start I2 hix hcell hkind hfr f2 hfo (t' := s2.toks + ([] : List (Str × Value)).length) hCle hns₁ old
  have notS : ∀ b, s2.heap.objs.size <= b -> b ∉ frs X.stack := fun b hb hs => by
    rcases List.mem_cons.mp (I2.stkSub b hs) with z | z
    · exact absurd (Nat.lt_of_lt_of_le I2.lt hb) (by rw [z]; exact Nat.lt_irrefl _)
    · exact I2.nofs hb z
  have from_ : ∀ {x : Str} {c : Addr}, (clOf X.env scope.names []).lookup x = some c -> X.env.cells.lookup x = some c := fun {x c} e => clOf_from scope.names [] (fun y d q => by simp at q) e
  have cellD : ∀ x c, (clOf X.env scope.names []).lookup x = some c -> c ≠ s2.heap.objs.size := fun x c e z => by
    obtain ⟨v, q⟩ := I2.cell x c (from_ e)
    exact absurd (q.lt) (by rw [z]; exact Nat.lt_irrefl _)
  have fY : ∀ {pl : List (Addr × Obj)} {H' : Hp}, (∀ p ∈ pl, p.1 = s2.heap.objs.size) -> (∀ b ∈ fp, H' b = none) -> ∀ b ∈ fp, FpOk (cxComp X scope P2.objs.size Nc s2 H2 fp) pl H' b := fun {pl H'} hpl hn b hb => by
    refine ⟨hn b hb, ?_, ?_, .inl hb, fun x c e => (f2 b hb).2.2.2.2.1 x c (from_ e), fun p hp => ?_⟩
    · obtain ⟨o, e⟩ := hfo b hb
      exact neC b (Heap.lt_size e)
    · intro hs
      rcases List.mem_cons.mp (I2.stkSub b hs) with z | z
      · exact (f2 b hb).2.1 z
      · exact (f2 b hb).2.2.1 z
    · rw [hpl p hp]
      exact fpD b hb
  have loop : ∀ s₃ : Shared, s₃ = { s2 with heap := h₁, toks := s2.toks + ([] : List (Str × Value)).length } ->
      codeAny (model X.prog X.w) X.A (.compLoop (.ListComp elt [⟨tg, iter, ifs, 0⟩] scope pos) 0 (.ref it) (.ref s2.heap.objs.size) (compEnvC scope (clOf X.env scope.names []) P2.objs.size X.env)) (RR (.ref s2.heap.objs.size) P2.objs.size) s₃ := by
    rintro s₃ rfl
    refine compLoop_gen (fun n s' => ∃ i acc its nn H', Inv (cxComp X scope P2.objs.size Nc s2 H2 fp) [] (subSt σ ix) H' s' /\ tn i s'.heap /\ (∀ b ∈ fp, H' b = none) /\
      s'.heap.get? s2.heap.objs.size = some { cls := .type "list", data := .seq (its : List Value).toArray nn } /\ Vals acc its /\ H' s2.heap.objs.size = none /\ W i n acc H') ?_ m0
      ⟨0, [], [], 0, H2, IY, st₁, fun b hb => (f2 b hb).1, hacc, .nil, I2.hok.fresh (Nat.le_refl _), w0⟩
    rintro n s3 ⟨i, acc, its, nn, H3, I3, st3, fr3, eD, rv, nD, w3⟩
    obtain ⟨hz, alt⟩ := turn i n acc H3 w3
    have IP : Inv (cxComp X scope P2.objs.size Nc s2 H2 fp) [(s2.heap.objs.size, { cls := .type "list", data := .seq its.toArray nn })] (subSt σ ix) H3 s3 := I3.pins_of fun p hp => by
      have e : p = (s2.heap.objs.size, _) := List.mem_singleton.mp hp
      subst e
      refine ⟨eD, nD, hDC, notS _ (Nat.le_refl _), fun v z => ?_⟩
      have z' : Data.seq its.toArray nn = Data.cell v := z
      cases z'
    have hpl : ∀ p ∈ [(s2.heap.objs.size, ({ cls := .type "list", data := .seq its.toArray nn } : Obj))], p.1 = s2.heap.objs.size := fun p hp => by
      have e : p = (s2.heap.objs.size, _) := List.mem_singleton.mp hp
      rw [e]
    rcases alt with ⟨stop, fin⟩ | ⟨go, step⟩
    · refine thn (T.done (cxComp X scope P2.objs.size Nc s2 H2 fp) rfl rfl rfl hcalm i _ s3 _ H3 noE IP (fY hpl fr3) st3 stop) fun r s4 ⟨hr, I4⟩ => ?_
      subst hr
      obtain ⟨m, hn, _⟩ := id I4.loc
      obtain ⟨oC, es, ep, eC, dC, _⟩ := id hn
      have eD4 := (I4.pin (s2.heap.objs.size, _) (List.mem_append_right _ (List.mem_singleton.mpr rfl))).1
      have fin' := fin _ nD
      refine hRR _ _ oC m _ s4 eC hn ?_ (comp_exit I2 I4 f2 (Nat.le_refl _) hCle hDC eD4 rv (Nat.le_of_lt hz) nD eC fun v z => ?_) fin'
      · refine I2.fpOk hCle ?_
        rw [upd_ne (Ne.symm hDC)]
        exact I4.free
      · rw [dC] at z; cases z
    · refine thn (T.item (cxComp X scope P2.objs.size Nc s2 H2 fp) rfl rfl rfl hcalm i _ s3 _ H3 noE IP (fY hpl fr3) st3 go) fun r s4 ⟨u, hr, h4⟩ => ?_
      subst hr
      refine thn h4 fun _ s5 ⟨x, H5, I5, r5, y5, st5, fr5⟩ => ?_
      have I5' := I5.pinned (fY hpl fr5) (T.obj _ _ st5)
      refine thn (hG _ s2 H2 fp _ s5 _ H5 x u _ I5' r5 (step x H5 y5)) fun _ s6 ⟨σ6, H6, I6, wk, q6⟩ => ?_
      refine thn (hT _ s2 H2 fp _ s6 σ6 H6 _ I6 q6) fun b s7 ⟨H7, I7, q7⟩ => ?_
      have again : ∀ {H9 : Hp} {s9 : Shared} {m' : Nat}, Inv (cxComp X scope P2.objs.size Nc s2 H2 fp) ([(s2.heap.objs.size, ({ cls := .type "list", data := .seq its.toArray nn } : Obj))] ++ pinsAt fp s5.heap) σ6 H9 s9 ->
          (s9.heap.get? s2.heap.objs.size = some { cls := .type "list", data := .seq its.toArray nn } /\ H9 s2.heap.objs.size = none) /\ tn (i + 1) s9.heap /\ (∀ b ∈ fp, H9 b = none) /\ Inv (cxComp X scope P2.objs.size Nc s2 H2 fp) [] (subSt σ ix) H9 s9 := fun {H9 s9 m'} I9 => by
        have pD := I9.pin (s2.heap.objs.size, _) (List.mem_append_right _ (List.mem_append_left _ (List.mem_singleton.mpr rfl)))
        refine ⟨⟨pD.1, pD.2.1⟩, T.keep _ _ _ st5 fun b hb o e => (I9.pin (b, o) (List.mem_append_right _ (List.mem_append_right _ (mem_pinsAt hb e)))).1, fun b hb => ?_, ?_⟩
        · obtain ⟨o, e, d⟩ := T.obj _ _ st5 b hb
          exact (I9.pin (b, o) (List.mem_append_right _ (List.mem_append_right _ (mem_pinsAt hb e)))).2.1
        · exact (I9.weak wk.len fun i v e => wk.get e).pins_of fun p hp => absurd hp (by simp)
      cases b with
      | false =>
        rw [if_neg Bool.false_ne_true] at q7 ⊢
        obtain ⟨m', hm, w7⟩ := q7
        obtain ⟨⟨e7, n7⟩, t7, f7, J7⟩ := again (m' := 0) I7
        exact ⟨m', hm, i + 1, acc, its, nn, H7, J7, t7, f7, e7, rv, n7, w7⟩
      | true =>
        rw [if_pos rfl] at q7 ⊢
        refine thn (hE _ s2 H2 fp _ s7 σ6 H7 _ I7 q7) fun y s8 ⟨v, H8, I8, r8, m', hm, w8⟩ => ?_
        obtain ⟨⟨e8, n8⟩, t8, f8, J8⟩ := again (m' := 0) I8
        refine wpAny_list_append_plain (items := its.toArray) ⟨nn, e8⟩ (fun h9 hl9 hs9 => ?_) (by rw [List.size_toArray, <- rv.length]; exact Nat.le_of_lt hz)
        obtain ⟨n9, e9⟩ := hl9
        refine ⟨m', hm, i + 1, acc ++ [v], its ++ [y], n9, H8, J8.turned (t' := s8.toks) (fun b o hb e => (hs9.2 b hb).trans e) n8 hDC (.inr (Nat.le_refl _)) cellD (fun p hp => absurd hp (by simp [cxComp])), ?_, f8, ?_, rv.append (.cons r8 .nil), n8, w8⟩
        · exact T.keep _ _ _ t8 fun b hb o e => (hs9.2 b (Ne.symm (fpD b hb))).trans e
        · simpa using e9
  exact codeAny_compStart_list (loop _ rfl) (T.self _ 0 _ _ _ st₁ (loop _ rfl))
theorem pe_comp {X : Cx} {tg iter elt : Expr} {ifs : List Expr} {scope : Scope} {pos : Pos} {wi : TI} {g : TG} {tc : TT} {te : TE} (Nc : List Str) (ix : List (Option Nat)) (hi : PI X tg iter wi) (hcalm : X.calm = true) (hix : IxOk X scope Nc ix)
    (hcell : ∀ y ∈ scope.names, y.2 ≠ .cell) (hkind : scope.kind = .function) (hfr : ∀ y ∈ scope.names, y.2 = .free -> X.env.kindOf y.1 = some .cell \/ X.env.kindOf y.1 = some .free)
    (hnames : ∀ x ∈ scope.names, x.2 = .local -> scope.names.lookup x.1 = some .local)
    (hG : ∀ C s H fp, PG (cxComp X scope C Nc s H fp) tg g) (hT : ∀ C s H fp, PF (cxComp X scope C Nc s H fp) ifs tc) (hE : ∀ C s H fp, PE (cxComp X scope C Nc s H fp) elt te)
    (hs : ∀ x, foldedSetIterable iter X.env x = pure x := by intro _; rfl) : PE X (.ListComp elt [⟨tg, iter, ifs, 0⟩] scope pos) (tComp wi ix g tc te) := by
  intro pins s σ H Q I h
  rw [eval_ListComp]
  have hfc : ∀ y ∈ scope.names, y.2 = .free -> ∃ c, X.env.cells.lookup y.1 = some c := fun y hy e => I.ok.has y.1 (hfr y hy e)
  refine wpAny_comprehension_free (use := none) rfl hs (closureFor_cl hfc) hkind hnames (comp_core hi hcalm hix hcell hkind hfr hG hT hE I h (RR := fun acc C => compPost (model X.prog X.w) X.A X.xe none (EP X pins σ Q) acc C) ?_)
  intro D C oC m H' s' eC hn fC I' q
  refine ⟨m, hn, fun h' hs' => ⟨.ref D, H', ?_, rfl, q⟩⟩
  exact I'.unpinned.turned (t' := s'.toks) (fun b o hb e => (hs'.2 b hb).trans e) fC.1 fC.2.1 fC.2.2.2.1 fC.2.2.2.2.1 fC.2.2.2.2.2
theorem ps_setC {X : Cx} {i : Nat} {x : Str} {tg iter elt : Expr} {ifs : List Expr} {scope : Scope} {pos spos pos' : Pos} {wi : TI} {g : TG} {tc : TT} {te : TE} (Nc : List Str) (ix : List (Option Nat)) (hN : X.N.Nodup) (hxi : X.N[i]? = some x) (hx : Loc X.env.scope x)
    (hsw : swapsWith (.ListComp elt [⟨tg, iter, ifs, 0⟩] scope pos) (some (.Name x pos')) spos.line X.env = pure true) (hi : PI X tg iter wi) (hcalm : X.calm = true) (hix : IxOk X scope Nc ix)
    (hcell : ∀ y ∈ scope.names, y.2 ≠ .cell) (hkind : scope.kind = .function) (hfr : ∀ y ∈ scope.names, y.2 = .free -> X.env.kindOf y.1 = some .cell \/ X.env.kindOf y.1 = some .free)
    (hnames : ∀ x ∈ scope.names, x.2 = .local -> scope.names.lookup x.1 = some .local)
    (hG : ∀ C s H fp, PG (cxComp X scope C Nc s H fp) tg g) (hT : ∀ C s H fp, PF (cxComp X scope C Nc s H fp) ifs tc) (hE : ∀ C s H fp, PE (cxComp X scope C Nc s H fp) elt te)
    (hs : ∀ x, foldedSetIterable iter X.env x = pure x := by intro _; rfl) (hf : X.fn x = true \/ X.env.scope.names.lookup x = some .local := by first | exact .inl rfl | exact .inr rfl | assumption) :
    PS X (.Assign [.Name x pos'] (.ListComp elt [⟨tg, iter, ifs, 0⟩] scope pos) spos) (tAsg (tComp wi ix g tc te) (gName i)) := by
  intro pins s σ H E I h
  have hfc : ∀ y ∈ scope.names, y.2 = .free -> ∃ c, X.env.cells.lookup y.1 = some c := fun y hy e => I.ok.has y.1 (hfr y hy e)
  rw [exec_Assign_Name_used _ _ _ _ hsw]
  refine wpAny_bind (wpAny_standAt (wpAny_bind ?_))
  show wpAny _ X.A (do let _ <- comprehension (.ListComp elt [⟨tg, iter, ifs, 0⟩] scope pos) scope X.env _ (newList []) false (eval iter X.env) (some (assign (.Name x pos') X.env))) _ _ s
  refine wpAny_bind (wpAny_mono (wpAny_comprehension_free (use := some (assign (.Name x pos') X.env)) (Q := fun _ s' => SP X pins E .next s') rfl hs (closureFor_cl hfc) hkind hnames
    (comp_core hi hcalm hix hcell hkind hfr hG hT hE I h (RR := fun acc C => compPost (model X.prog X.w) X.A X.xe (some (assign (.Name x pos') X.env)) (fun _ s' => SP X pins E .next s') acc C) ?_)) (fun _ s' hq => wpAny_pure (wpAny_pure hq)) fun _ _ e => e)
  intro D C oC m H' s' eC hn fC I' q
  show wpAny _ X.A (assign (.Name x pos') X.env (.ref D)) _ _ _
  refine wpAny_assign_Name (store_ok I' hN hxi hx (show RelV (.ref D) _ from rfl) (fun s'' I'' => ?_) hf)
  have pC := I''.pin (C, oC) (List.mem_append_right _ (List.mem_append_right _ (List.mem_singleton.mpr rfl)))
  refine ⟨m, ?_, fun h' hs' => ?_⟩
  · obtain ⟨o, es, ep, e, r⟩ := hn
    rw [eC] at e; cases e
    exact ⟨oC, es, ep, pC.1, r⟩
  · refine ⟨_, H', I''.unpinned.turned (t' := s''.toks) (fun b o hb e => (hs'.2 b hb).trans e) fC.1 fC.2.1 fC.2.2.2.1 fC.2.2.2.2.1 fC.2.2.2.2.2, q⟩
end L2
namespace L2
open PySem PySem.Spec PyProof.Rows
noncomputable def S (l : List Nat) : Str := ⟨l.toArray⟩
theorem S_list (l : List Nat) : (S l).cps.toList = l := by simp [S]
theorem S_len (l : List Nat) : (S l).length = l.length := by simp [S, Str.length]
theorem S_size (l : List Nat) : (S l).cps.size = l.length := by simp [S]
theorem S_inj {a b : List Nat} (h : S a = S b) : a = b := by
  have := congrArg (fun x : Str => x.cps.toList) h
  simpa [S] using this
theorem S_of (x : Str) : x = S x.cps.toList := by cases x; simp [S]
theorem S_app (a b : List Nat) : S a ++ S b = S (a ++ b) := by
  apply Str.ext'
  apply Array.toList_inj.mp
  simp [S, Str.cps_append]
theorem dec_S {a b : List Nat} : decide (V.str (S a) = V.str (S b)) = decide (a = b) := by
  by_cases h : a = b
  · subst h; simp
  · rw [decide_eq_false h, decide_eq_false]
    intro q
    exact h (S_inj (V.str.inj q))
noncomputable def cut {α : Type} (xs : List α) (lo hi : Option Int) : List α := (xs.drop (HT.sIx xs.length 0 lo)).take (HT.sIx xs.length xs.length hi - HT.sIx xs.length 0 lo)
theorem clip_sIx (n d : Nat) (v : Int) : max 0 (min (if v < 0 then v + (n : Int) else v) (n : Int)) = ((HT.sIx n d (some v) : Nat) : Int) := by
  show _ = (((if v < 0 then (v + (n : Int)).toNat else min v.toNat n) : Nat) : Int)
  by_cases hv : v < 0
  · simp only [if_pos hv]; omega
  · simp only [if_neg hv]; omega
theorem indices_sIx (lo hi : Option Int) (n : Nat) : Builtin.Str.strSliceIndices lo hi 1 n = (List.range (HT.sIx n n hi - HT.sIx n 0 lo)).map (HT.sIx n 0 lo + ·) := by
  have h1 : (1 : Int) > 0 := by decide
  rw [<- sliceRange_one]
  unfold Builtin.Str.strSliceIndices
  simp only [h1, if_true]
  congr 1
  · cases lo with
    | none => rfl
    | some v => exact clip_sIx n 0 v
  · cases hi with
    | none => rfl
    | some v => exact clip_sIx n n v
theorem slice_S (l : List Nat) (lo hi : Option Int) : Txt.slice (S l) lo hi = S (cut l lo hi) := by
  have hx : ((Builtin.Str.strSliceIndices lo hi 1 (S l).length).filterMap ((S l).cps[·]?)) = cut l lo hi := by
    rw [S_len, indices_sIx, pick_run, S_list]
    rfl
  have hlen : (Builtin.Str.strSliceIndices lo hi 1 (S l).length).length = HT.sIx l.length l.length hi - HT.sIx l.length 0 lo := by
    rw [S_len, indices_sIx, List.length_map, List.length_range]
  unfold Txt.slice
  by_cases hc : ((1 : Int) == 1 && (Builtin.Str.strSliceIndices lo hi 1 (S l).length).length == (S l).length) = true
  · rw [if_pos hc]
    rw [hlen, S_len] at hc
    have e : HT.sIx l.length l.length hi - HT.sIx l.length 0 lo = l.length := by simpa using hc
    have h2 := HT.sIx_le l.length l.length (Nat.le_refl _) hi
    have e0 : HT.sIx l.length 0 lo = 0 \/ l.length = 0 := by omega
    unfold cut
    rw [e]
    rcases e0 with z | z
    · rw [z]; simp
    · have : l = [] := List.eq_nil_of_length_eq_zero z
      subst this
      simp
  · rw [if_neg hc]
    rw [hx]
    rfl
section
variable {X : Cx}
theorem pe_S {x : Str} {j pos} (l : List Nat) (h : x = S l) : PE X (.Constant (.str x) j pos) (tC (.str (S l))) := by
  subst h
  exact pe_str
noncomputable def rAddS : R2 := fun x y H Q => ∃ a b, x = .str (S a) /\ y = .str (S b) /\ a.length + b.length <= sizeLine /\ Q (.str (S (a ++ b))) H
theorem op_addS : OpR X (binaryOp .Add) rAddS := by
  intro pins s σ H x y v u Q I rx ry h
  obtain ⟨a, b, rfl, rfl, hz, q⟩ := h
  exact op_add_str pins s σ H _ _ v u Q I rx ry ⟨S a, S b, rfl, rfl, by rw [S_len, S_len]; exact hz, by rw [S_app]; exact q⟩
noncomputable def rIxS' : R2 := fun x y H Q => ∃ l i c, x = .str (S l) /\ y = .int i /\ l.length <= sizeLine /\ atI l i = some c /\ Q (.str (S [c])) H
theorem ix_S : IxR X rIxS' := by
  intro value slice pins s σ H x y v u Q I rx ry h hs
  obtain ⟨l, i, c, rfl, rfl, hz, he, q⟩ := h
  exact ix_str value slice pins s σ H _ _ v u Q I rx ry ⟨S l, i, c, rfl, rfl, by rw [S_len]; exact hz, by rw [S_list]; exact he, q⟩ hs
noncomputable def rSlS : V -> Option Int -> Option Int -> Hp -> VK -> Prop := fun x lo hi H Q => ∃ l, x = .str (S l) /\ l.length <= sizeLine /\ Q (.str (S (cut l lo hi))) H
theorem sl_S : SlR X rSlS := by
  intro pins s σ H x v vl vu lo hi sl Q I rx hs pl pu h
  obtain ⟨l, rfl, hz, q⟩ := h
  obtain ⟨t, rfl⟩ := rx
  refine ⟨"str", _, F.slot_str_getitem.lookup, typeIs_str _ _ _, ?_⟩
  have key : ∀ (a b : Option (Int × Tok)), vl = partValue a -> vu = partValue b -> a.map (·.1) = lo -> b.map (·.1) = hi -> wpAny (model X.prog X.w) X.A (getItem (.str (S l) t) (.ref sl)) (EP X pins σ Q) X.xe s := by
    rintro a b rfl rfl rfl rfl
    obtain ⟨o, e, c, d⟩ := hs
    refine wpAny_getItem_str_slice (l := a) (u := b) (st := none) ⟨o, e, c, d⟩ rfl (post_val_or_str ⟨?_, fun t' k => ?_⟩)
    · exact Nat.le_trans (Txt.slice_le (S l) _ _) (by rw [S_len]; exact hz)
    · exact ⟨.str (S (cut l _ _)), H, I.tok _, ⟨t', congrArg (fun z => Value.str z t') (slice_S l _ _)⟩, q⟩
  cases pl with
  | none =>
    cases pu with
    | none => exact key none none rfl rfl rfl rfl
    | int i ti => exact key none (some (i, ti)) rfl rfl rfl rfl
  | int i ti =>
    cases pu with
    | none => exact key (some (i, ti)) none rfl rfl rfl rfl
    | int j tj => exact key (some (i, ti)) (some (j, tj)) rfl rfl rfl rfl
theorem call_lenS : CallR X (.builtin "len") (fun xs H Q => ∃ l, xs = [.str (S l)] /\ l.length <= sizeLine /\ Q (.int l.length) H) := by
  intro pins s σ H xs us Q I r h
  obtain ⟨l, rfl, hz, q⟩ := h
  exact call_len_str pins s σ H _ us Q I r ⟨S l, rfl, by rw [S_len]; exact hz, by rw [S_len]; exact q⟩
noncomputable def sgs (l : List Nat) : List V := l.map fun c => V.str (S [c])
noncomputable def rInS : R2 := fun x y H Q => ∃ c l, x = .str (S [c]) /\ y = .str (S l) /\ Q (.bl (decide (c ∈ l))) H
theorem op_inS : OpR X (compareOp .In) rInS := by
  intro pins s σ H x y v u Q I rx ry h
  obtain ⟨c, l, rfl, rfl, q⟩ := h
  refine op_in_str pins s σ H _ _ v u Q I rx ry ⟨S [c], S l, rfl, rfl, ?_⟩
  have e := StrLaws.found_one (S l) c
  rw [S_list] at e
  rw [show (S [c]) = (⟨#[c]⟩ : Str) from rfl, e]
  exact q
noncomputable def rNinS : R2 := fun x y H Q => ∃ c l, x = .str (S [c]) /\ y = .str (S l) /\ Q (.bl (!decide (c ∈ l))) H
theorem op_ninS : OpR X (compareOp .NotIn) rNinS := by
  intro pins s σ H x y v u Q I rx ry h
  obtain ⟨c, l, rfl, rfl, q⟩ := h
  refine op_notIn_str pins s σ H _ _ v u Q I rx ry ⟨S [c], S l, rfl, rfl, ?_⟩
  have e := StrLaws.found_one (S l) c
  rw [S_list] at e
  rw [show (S [c]) = (⟨#[c]⟩ : Str) from rfl, e]
  exact q
end
end L2
namespace L2
open PySem PySem.Spec PyProof.Rows
theorem occ_stays (s sub : Str) (hi : Nat) : ∀ (l : List Nat) (st : Array Nat × Nat), 1 <= st.fst.size -> (forIn l st (StrLaws.occBody s sub hi 1)).run.fst = st.fst
  | [], st, h => rfl
  | a :: l, st, h => by
    rw [List.forIn_cons]
    unfold StrLaws.occBody
    rw [if_neg (fun z => absurd z.1.1.1 (Nat.not_lt.mpr h))]
    exact occ_stays s sub hi l _ h
theorem occ_first (s sub : Str) (hi : Nat) : ∀ (l : List Nat) (free : Nat), (∀ i ∈ l, free <= i) ->
    (forIn l ((#[] : Array Nat), free) (StrLaws.occBody s sub hi 1)).run.fst.toList = (l.find? fun i => decide (i + sub.length <= hi) && Builtin.Str.subAt s sub i).toList
  | [], free, _ => rfl
  | a :: l, free, hf => by
    rw [List.forIn_cons, List.find?_cons]
    unfold StrLaws.occBody
    have ha : free <= a := hf a List.mem_cons_self
    by_cases hc : a + sub.length <= hi /\ Builtin.Str.subAt s sub a = true
    · rw [if_pos ⟨⟨⟨by simp, ha⟩, hc.1⟩, hc.2⟩]
      have : (decide (a + sub.length <= hi) && Builtin.Str.subAt s sub a) = true := by simp [hc]
      rw [this]
      show (forIn l (#[].push a, a + sub.length) (StrLaws.occBody s sub hi 1)).run.fst.toList = _
      rw [occ_stays s sub hi l _ (by simp)]
      rfl
    · rw [if_neg (fun z => hc ⟨z.1.2, z.2⟩)]
      have : (decide (a + sub.length <= hi) && Builtin.Str.subAt s sub a) = false := by
        cases h1 : decide (a + sub.length <= hi) with
        | false => rfl
        | true =>
          cases h2 : Builtin.Str.subAt s sub a with
          | false => rfl
          | true => exact absurd ⟨of_decide_eq_true h1, h2⟩ hc
      rw [this]
      exact occ_first s sub hi l free fun i hi' => hf i (List.mem_cons_of_mem _ hi')
theorem subAt_one (l : List Nat) (c i : Nat) : Builtin.Str.subAt (S l) (S [c]) i = (l[i]? == some c) := by
  unfold Builtin.Str.subAt
  rw [S_len]
  show ((S l).cps.extract i (i + 1) == #[c]) = _
  have e : ((S l).cps.extract i (i + 1)) = ((l.drop i).take 1).toArray := by
    apply Array.toList_inj.mp
    simp [S, List.take_drop]
  rw [e]
  by_cases h : i < l.length
  · have e2 : (l.drop i).take 1 = [l[i]] := by
      rw [List.drop_eq_getElem_cons h]; rfl
    rw [e2, List.getElem?_eq_getElem h]
    by_cases hc : l[i] = c
    · rw [hc]; simp
    · have h1 : ([l[i]].toArray == #[c]) = false := by
        rw [beq_eq_false_iff_ne]
        intro z
        apply hc
        have := congrArg Array.toList z
        simpa using this
      have h2 : (some l[i] == some c) = false := by simpa using hc
      rw [h1, h2]
  · have e2 : (l.drop i).take 1 = [] := by rw [List.drop_eq_nil_of_le (by omega)]; rfl
    rw [e2, List.getElem?_eq_none (by omega)]
    rfl
theorem find_idx (l : List Nat) (c : Nat) : ∀ (k n : Nat), k + n = l.length + 1 -> ((List.range' k n).find? fun i => decide (i + 1 <= l.length) && (l[i]? == some c)) = if c ∈ l.drop k then some (k + (l.drop k).idxOf c) else none
  | k, 0, h => by
    have : l.drop k = [] := List.drop_eq_nil_of_le (by omega)
    rw [this]; simp
  | k, n + 1, h => by
    rw [List.range'_succ, List.find?_cons]
    by_cases hk : k < l.length
    · have e : l.drop k = l[k] :: l.drop (k + 1) := List.drop_eq_getElem_cons hk
      rw [List.getElem?_eq_getElem hk, e]
      by_cases hc : l[k] = c
      · have : (decide (k + 1 <= l.length) && (some l[k] == some c)) = true := by simp [hc]; omega
        rw [this, if_pos (by simp [hc])]
        simp [hc]
      · have : (decide (k + 1 <= l.length) && (some l[k] == some c)) = false := by simp [hc]
        rw [this, find_idx l c (k + 1) n (by omega)]
        have hc' : ¬ c = l[k] := fun z => hc z.symm
        by_cases hm : c ∈ l.drop (k + 1)
        · rw [if_pos hm, if_pos (List.mem_cons_of_mem _ hm), List.idxOf_cons]
          have : (l[k] == c) = false := by simpa using hc
          rw [this]
          show some (k + 1 + List.idxOf c (List.drop (k + 1) l)) = some (k + (List.idxOf c (List.drop (k + 1) l) + 1))
          congr 1
          omega
        · rw [if_neg hm, if_neg (by intro z; rcases List.mem_cons.mp z with z | z; exact hc' z; exact hm z)]
    · have : l.drop k = [] := List.drop_eq_nil_of_le (by omega)
      have e1 : (decide (k + 1 <= l.length) && (l[k]? == some c)) = false := by
        rw [decide_eq_false (by omega)]; rfl
      have e2 : l.drop (k + 1) = [] := List.drop_eq_nil_of_le (by omega)
      rw [e1, find_idx l c (k + 1) n (by omega), this, e2]
      simp
theorem occ_S (l : List Nat) (c : Nat) : Builtin.Str.occurrences (S l) (S [c]) 0 (S l).length 1 = if c ∈ l then [l.idxOf c] else [] := by
  rw [StrLaws.occ_eq, occ_first _ _ _ _ 0 fun _ _ => Nat.zero_le _]
  have e : (fun i => decide (i + (S [c]).length <= (S l).length) && Builtin.Str.subAt (S l) (S [c]) i) = fun i => decide (i + 1 <= l.length) && (l[i]? == some c) := by
    funext i
    rw [subAt_one, S_len, S_len]
    rfl
  rw [e, S_len, Nat.sub_zero, find_idx l c 0 (l.length + 1) (by omega), List.drop_zero]
  by_cases h : c ∈ l
  · rw [if_pos h, if_pos h, Nat.zero_add]; rfl
  · rw [if_neg h, if_neg h]; rfl
section
variable {X : Cx}
noncomputable def rIndexS : V -> List V -> Hp -> VK -> Prop := fun x vs H Q => ∃ l c, x = .str (S l) /\ vs = [.str (S [c])] /\ c ∈ l /\ Q (.int (l.idxOf c : Nat)) H
theorem mt_indexS : MtR X "str.index" rIndexS := by
  intro pins s σ H x xs v us Q I rx rv h
  obtain ⟨l, c, rfl, rfl, hc, q⟩ := h
  obtain ⟨t, rfl⟩ := rx
  obtain ⟨u, rfl, t', rfl⟩ := vals1 rv
  exact SC.index (i := l.idxOf c) (rest := []) (by rw [occ_S, if_pos hc]) ⟨.int (l.idxOf c : Nat), H, I.tok _, ⟨_, rfl⟩, q⟩
noncomputable def isLow (c : Nat) : Bool := decide (97 <= c) && decide (c <= 122)
theorem glue_S : ∀ (ls : List (List Nat)) (a : Array Nat), (ls.map S).foldl (fun acc p => acc ++ (S []).cps ++ p.cps) a = a ++ ls.flatten.toArray
  | [], a => by simp
  | l :: ls, a => by
    rw [List.map_cons, List.foldl_cons, glue_S ls]
    simp [S]
theorem join_S (ls : List (List Nat)) : Txt.join (S []) (ls.map S) = S ls.flatten := by
  unfold Txt.join Builtin.Str.glued
  cases ls with
  | nil => rfl
  | cons l ls =>
    show Str.mk ((List.map S ls).foldl (fun acc p => acc ++ (S []).cps ++ p.cps) (S l).cps) = _
    rw [glue_S]
    simp [S]
theorem strsAre_of : ∀ {ls : List (List Nat)} {us : List Value}, Vals (ls.map fun l => V.str (S l)) us -> StrsAre us (ls.map S)
  | [], us, r => by cases r; exact .nil
  | l :: ls, us, r => by
    cases r with
    | cons r1 r2 =>
      obtain ⟨t, rfl⟩ := r1
      exact .cons _ t (strsAre_of r2)
noncomputable def rJoinS (K : PySem.W.Frag) : V -> List V -> Hp -> VK -> Prop := fun x vs H Q => ∃ (p : Addr) (ls : List (List Nat)), x = .str (S []) /\ vs = [.ref p] /\ SqL K H p (ls.map fun l => V.str (S l)) /\ (ls.map List.length).sum <= 16777216 /\ Q (.str (S ls.flatten)) H
theorem mt_joinS : MtR X "str.join" (rJoinS X.K) := by
  intro pins s σ H x xs v us Q I rx rv h
  obtain ⟨p, ls, rfl, rfl, hq, hz, q⟩ := h
  obtain ⟨t, rfl⟩ := rx
  obtain ⟨u, rfl, ru⟩ := vals1 rv
  cases ru
  obtain ⟨its, r, pl, _⟩ := I.list hq
  have e : (S []).length = 0 := rfl
  refine join_list pl.isList (by simpa using strsAre_of r) ?_ fun t' k => ?_
  · rw [e, Nat.mul_zero, Nat.add_zero, List.map_map]
    have e2 : (Str.length ∘ S) = List.length := by funext l; exact S_len l
    have e3 : ((fun x : Str => x.length) ∘ S) = List.length := by funext l; exact S_len l
    first | (rw [e2]; exact hz) | (rw [e3]; exact hz)
  · exact ⟨.str (S ls.flatten), H, I.tok _, ⟨t', congrArg (fun z => Value.str z t') (join_S ls)⟩, q⟩
theorem call_isStr : CallR X (.builtin "isinstance") (fun xs H Q => ∃ z, xs = [.str z, .ty "str"] /\ Q (.bl true) H) := by
  intro pins s σ H xs us Q I r h
  obtain ⟨z, rfl, q⟩ := h
  obtain ⟨u, w', rfl, r1, r2⟩ := vals2 r
  cases (show w' = Value.type "str" from r2)
  exact isinst_ok I r1 (.str z) (by unfold PySem.W.kitOne; rw [if_pos (by decide)]) fun tk => ⟨.bl true, H, I.tok _, rfl, q⟩
theorem call_allB (hc : X.calm = true) : CallR X (.builtin "all") (fun xs H Q => ∃ (p : Addr) (bs : List Bool), xs = [.ref p] /\ SqL X.K H p (bs.map V.bl) /\ Q (.bl (bs.all id)) H) := by
  intro pins s σ H xs us Q I r h
  obtain ⟨p, bs, rfl, hq, q⟩ := h
  obtain ⟨u, rfl, ru⟩ := vals1 r
  cases ru
  obtain ⟨its, rv, pl, hz⟩ := I.list hq
  have hlen : its.length = bs.length := by rw [<- rv.length, List.length_map]
  have hp : p < s.heap.objs.size := by
    obtain ⟨o, n, e, _⟩ := pl
    exact Heap.lt_size e
  refine call_all_walk (wpAny_pyIter_list pl.isList ?_)
  refine ⟨s.heap.objs.size, _, _, _, _, _, fun i => (bs[i]?).getD true, rfl, Walks.list (A := X.A.in1) (I.ok.hd hc) s.heap.objs.size p (Nat.ne_of_lt hp) its.toArray, ⟨⟨_, Heap.get?_push_size _ rfl, rfl, rfl⟩, ?_⟩, fun i v s' Q' E' hP hQ => ?_, fun h' tk hk => ?_⟩
  · obtain ⟨o, ho, hr⟩ := pl.isList
    exact ⟨o, Heap.get?_push_of_some _ ho, hr⟩
  · have hP' : its[i]? = some v := by simpa using hP
    have hi : i < bs.length := by rw [<- hlen]; exact (List.getElem?_eq_some_iff.mp hP').1
    have hb : (bs.map V.bl)[i]? = some (V.bl bs[i]) := by rw [List.getElem?_map, List.getElem?_eq_getElem hi]; rfl
    obtain ⟨u, hu, ru⟩ := rv.get hb
    rw [hP'] at hu; cases hu
    cases (show v = Value.bool bs[i] from ru)
    have e : (bs[i]?).getD true = bs[i] := by rw [List.getElem?_eq_getElem hi]; rfl
    have hQ' : Q' ((bs[i]?).getD true) s' := hQ
    rw [e] at hQ'
    exact wpAny_pure hQ'
  · have e : ((List.range its.toArray.size).all fun i => (bs[i]?).getD true) = bs.all id := by
      rw [List.size_toArray, hlen]
      clear hq rv hlen q
      rw [Bool.eq_iff_iff, List.all_eq_true, List.all_eq_true]
      constructor
      · intro h b hb
        obtain ⟨i, hi, e⟩ := List.getElem_of_mem hb
        have := h i (List.mem_range.mpr hi)
        rw [List.getElem?_eq_getElem hi, e] at this
        exact this
      · intro h i hi
        have hi' := List.mem_range.mp hi
        rw [List.getElem?_eq_getElem hi']
        exact h _ (List.getElem_mem hi')
    have I1 : Inv X pins σ H { s with heap := h', toks := tk } := by
      have I0 : Inv X pins σ H { s with heap := s.heap.push { cls := .type "list_iterator", data := .fields #[.ref p, .int 0 0] } } := I.kept (t' := s.toks) fun b o e => Heap.get?_push_of_some _ e
      have f := I.fpOk (H' := H) (b := s.heap.objs.size) (Nat.le_refl _) I.fresh
      have J := I0.turned (h' := h') (t' := tk) (it := s.heap.objs.size) (fun b o hb e => hk b o (by simpa using hb) e) f.1 f.2.1 f.2.2.2.1 f.2.2.2.2.1 f.2.2.2.2.2
      exact J
    exact ⟨.bl (bs.all id), H, I1, by rw [e]; rfl, q⟩
end
end L2
namespace L2.F2
open PySem PySem.Spec PyProof.Rows
end L2.F2
namespace L2
open PySem PySem.Spec PyProof.Rows
section
variable {prog : Program} {w : World} {A : Around} {E : Value -> Shared -> Prop} {s : Shared}
noncomputable def IsRevS (h : Heap) (it : Addr) (x : Str) (t : Tok) (i : Int) : Prop := ∃ o, h.get? it = some o /\ o.cls = .type "reversed" /\ o.data = .fields #[.str x t, rawInt i]
end
noncomputable def Itx (xs : List V) : It := ⟨fun i _ => i < xs.length, fun i H x H' => H' = H /\ xs[i]? = some x, fun i _ => xs.length <= i⟩
theorem sgs_get {l : List Nat} {i : Nat} {x : V} (h : (sgs l)[i]? = some x) : ∃ c, l[i]? = some c /\ x = .str (S [c]) := by
  unfold sgs at h
  rw [List.getElem?_map] at h
  cases e : l[i]? with
  | none => rw [e] at h; cases h
  | some c => rw [e] at h; cases h; exact ⟨c, rfl, rfl⟩
theorem sgs_len (l : List Nat) : (sgs l).length = l.length := by unfold sgs; rw [List.length_map]
theorem turn_str {P : Program} {w : World} {K : PySem.W.Frag} {tg : Expr} (it : Addr) (l : List Nat) (t : Tok) : Turn P w K tg (Itx (sgs l)) [it] it (fun i h => h.IsStrIter it (strIterType (S l)) (S l) t i) where
  mem := by simp
  obj := fun i h st b hb => by
    have e : b = it := by simpa using hb
    subst e
    obtain ⟨o, e, c, d⟩ := st
    exact ⟨o, e, fun v z => by rw [d] at z; cases z⟩
  keep := fun i h h' st k => let ⟨o, e, r⟩ := st; ⟨o, k it (by simp) o e, r⟩
  item := by
    intro X hP hw hK hc i pins s σ H E I hf st hg
    subst hP hw hK
    have hg' : i < l.length := by have : i < (sgs l).length := hg; rwa [sgs_len] at this
    obtain ⟨f0, f1, f2, f3, f4, f5⟩ := hf it (by simp)
    have fin : ∀ (v : Value) (h' : Heap) (tk : Nat), SignAt (S l) i v -> h'.IsStrIter it (strIterType (S l)) (S l) t (i + 1) -> (∀ b o, b ∉ [it] -> s.heap.get? b = some o -> h'.get? b = some o) ->
        ∃ u, some v = some u /\ wpAny (model X.prog X.w) X.A (letOwnedTupleGo tg (.ref it) u) (fun _ s2 => ∃ x H', Inv X pins σ H' s2 /\ RelV x u /\ (Itx (sgs l)).yld i H x H' /\ s2.heap.IsStrIter it (strIterType (S l)) (S l) t (i + 1) /\ ∀ b ∈ [it], H' b = none) E { s with heap := h', toks := tk } := by
      intro v h' tk hv st' kk
      obtain ⟨c, u, e1, e2⟩ := hv
      subst e2
      have I1 : Inv X pins σ H { s with heap := h', toks := tk } := I.turned (fun b o hb e => kk b o (by simpa using hb) e) f0 f1 f3 f4 f5
      obtain ⟨o, e, cc, d⟩ := id st'
      refine ⟨_, rfl, go_of (s := { s with heap := h', toks := tk }) e cc d (by unfold strIterType; split <;> decide) ⟨.str (S [c]), H, I1, ⟨u, rfl⟩, ⟨rfl, ?_⟩, st', fun b hb => (hf b hb).1⟩⟩
      unfold sgs
      rw [List.getElem?_map]
      have e1' : l[i]? = some c := by simpa [S] using e1
      rw [e1']
      rfl
    have hsz : i < (S l).cps.size := by rw [S_size]; exact hg'
    by_cases ha : (S l).cps.all (· < 128) = true
    · have et : strIterType (S l) = "str_ascii_iterator" := by unfold strIterType; rw [if_pos ha]
      rw [et] at st
      exact (Walks.strAscii (prog := X.prog) (w := X.w) (I.ok.hd hc) it (S l) t).item i s _ _ hsz st fun v h' tk hv st' kk => fin v h' tk hv (by rw [et]; exact st') kk
    · have et : strIterType (S l) = "str_iterator" := by unfold strIterType; rw [if_neg ha]
      rw [et] at st
      exact (Walks.strWide (prog := X.prog) (w := X.w) (I.ok.hd hc) it (S l) t).item i s _ _ hsz st fun v h' tk hv st' kk => fin v h' tk hv (by rw [et]; exact st') kk
  done := by
    intro X hP hw hK hc i pins s σ H E I hf st hg
    subst hP hw hK
    obtain ⟨f0, f1, f2, f3, f4, f5⟩ := hf it (by simp)
    have hg' : l.length <= i := by have : (sgs l).length <= i := hg; rwa [sgs_len] at this
    have hx : (S l).cps[i]? = none := by rw [Array.getElem?_eq_none_iff, S_size]; exact hg'
    by_cases ha : (S l).cps.all (· < 128) = true
    · have et : strIterType (S l) = "str_ascii_iterator" := by unfold strIterType; rw [if_pos ha]
      rw [et] at st
      exact wpAny_pyNext_ascii_end (I.ok.hd hc) st hx fun h' eb => ⟨rfl, I.turned (t' := s.toks) (fun b o hb e => eb b o hb e) f0 f1 f3 f4 f5⟩
    · have et : strIterType (S l) = "str_iterator" := by unfold strIterType; rw [if_neg ha]
      rw [et] at st
      exact wpAny_pyNext_wide_end (I.ok.hd hc) st hx fun h' eb => ⟨rfl, I.turned (t' := s.toks) (fun b o hb e => eb b o hb e) f0 f1 f3 f4 f5⟩
  self := fun _ _ s _ _ st h => by
    by_cases ha : (S l).cps.all (· < 128) = true
    · have et : strIterType (S l) = "str_ascii_iterator" := by unfold strIterType; rw [if_pos ha]
      rw [et] at st
      exact wpAny_pyIter_striter_ascii st h
    · have et : strIterType (S l) = "str_iterator" := by unfold strIterType; rw [if_neg ha]
      rw [et] at st
      exact wpAny_pyIter_striter_wide st h
section
variable {X : Cx} {tg : Expr}
noncomputable def iStr (tl : TE) : TI := fun σ H R => tl σ H fun x H1 => ∃ l, x = .str (S l) /\ R (Itx (sgs l)) H1
theorem pi_str {l : Expr} {tl : TE} (hl : PE X l tl) : PI X tg l (iStr tl) := by
  intro pins s σ H R I h
  refine thn (hl pins s σ H _ I h) fun v s1 ⟨x, H1, I1, r1, q1⟩ => ?_
  obtain ⟨l, rfl, q⟩ := q1
  obtain ⟨t, rfl⟩ := r1
  refine wpAny_pyIter_strU ?_
  refine ⟨s1.heap.objs.size, [s1.heap.objs.size], _, _, H1, rfl, I1.kept (t' := s1.toks) fun b o e => Heap.get?_push_of_some _ e, turn_str _ l t, ⟨_, Heap.get?_push_size _ rfl, rfl, rfl⟩, fun b hb => ?_, q⟩
  have e : b = s1.heap.objs.size := by simpa using hb
  subst e
  exact I1.fpOk (Nat.le_refl _) (I1.hok.fresh (Nat.le_refl _))
end
theorem for_fix {xs : List V} {g : TG} {tb : TS} {D : Ends} {σ : St} {H : Hp} (Pv : Nat -> St -> Hp -> Prop) (h0 : Pv 0 σ H)
    (hs : ∀ i x σ H, xs[i]? = some x -> Pv i σ H -> g x σ H fun σ2 H2 => tb { D with nx := Pv (i + 1), ct := Pv (i + 1), bk := D.nx } σ2 H2) (hd : ∀ σ H, Pv xs.length σ H -> D.nx σ H) :
    ∃ W : Nat -> Nat -> St -> Hp -> Prop, (∃ m, W 0 m σ H) /\ ∀ i m σ H, W i m σ H ->
      ((Itx xs).stop i H /\ D.nx σ H) \/ ((Itx xs).go i H /\ ∃ N : St -> Hp -> Prop, (∀ σ' H', N σ' H' -> ∃ m', m' < m /\ W (i + 1) m' σ' H') /\ ∀ x H', (Itx xs).yld i H x H' -> g x σ H' fun σ2 H2 => tb { D with nx := N, ct := N, bk := D.nx } σ2 H2) := by
  refine ⟨fun i m σ H => m = xs.length - i /\ i <= xs.length /\ Pv i σ H, ⟨xs.length, by simp, Nat.zero_le _, h0⟩, ?_⟩
  rintro i m σ H ⟨rfl, hi, p⟩
  by_cases hlt : i < xs.length
  · refine .inr ⟨hlt, Pv (i + 1), fun σ' H' p' => ⟨xs.length - (i + 1), by omega, rfl, hlt, p'⟩, fun x H' y => ?_⟩
    obtain ⟨e, y⟩ := y
    subst e
    exact hs i x σ _ y p
  · have e : i = xs.length := by omega
    subst e
    exact .inl ⟨Nat.le_refl _, hd σ H p⟩
theorem comp_by {J : It} {n : Nat} {xs : Nat -> V -> Prop} {σc : St} {g : TG} {tc : TT} {te : TE} {Q : VK} {H1 : Hp} (Pv : Nat -> List V -> Hp -> Prop) (hn : n < sizeLine) (hgo : ∀ i acc H, i < n -> Pv i acc H -> J.go i H) (hstop : ∀ acc H, Pv n acc H -> J.stop n H)
    (hy : ∀ i acc H x H', i < n -> Pv i acc H -> J.yld i H x H' -> H' = H /\ xs i x) (h0 : Pv 0 [] H1)
    (hs : ∀ (i : Nat) (x : V) (acc : List V) (H : Hp) (Nx : List V -> Hp -> Prop), i < n -> xs i x -> acc.length <= i -> Pv i acc H -> (∀ acc' H', acc'.length <= i + 1 -> Pv (i + 1) acc' H' -> Nx acc' H') ->
      g x σc H fun σ2 H2 => Wk σc σ2 /\ tc σ2 H2 fun b H3 => if b = true then te σ2 H3 fun v H4 => Nx (acc ++ [v]) H4 else Nx acc H3)
    (hd : ∀ acc H D, acc.length <= n -> Pv n acc H -> H D = none -> Q (.ref D) (upd H D (.lst acc))) : CompW J σc g tc te Q H1 := by
  refine ⟨fun i m acc H => m = n - i /\ i <= n /\ acc.length <= i /\ Pv i acc H, ⟨n, by simp, Nat.zero_le _, Nat.le_refl _, h0⟩, ?_⟩
  rintro i m acc H ⟨rfl, hi, hl, p⟩
  refine ⟨by omega, ?_⟩
  by_cases hlt : i < n
  · refine .inr ⟨hgo i acc H hlt p, fun x H' y => ?_⟩
    obtain ⟨rfl, y2⟩ := hy i acc H x H' hlt p y
    exact hs i x acc _ (fun acc' H' => ∃ m', m' < n - i /\ (m' = n - (i + 1) /\ i + 1 <= n /\ acc'.length <= i + 1 /\ Pv (i + 1) acc' H')) hlt y2 hl p fun acc' H' h1 h2 => ⟨n - (i + 1), by omega, rfl, hlt, h1, h2⟩
  · have e : i = n := by omega
    subst e
    exact .inl ⟨hstop acc H p, fun D hD => hd acc H D hl p hD⟩
theorem comp_fix {xs : List V} {σc : St} {g : TG} {tc : TT} {te : TE} {Q : VK} {H1 : Hp} (Pv : Nat -> List V -> Hp -> Prop) (hn : xs.length < sizeLine) (h0 : Pv 0 [] H1)
    (hs : ∀ (i : Nat) (x : V) (acc : List V) (H : Hp) (Nx : List V -> Hp -> Prop), i < xs.length -> xs[i]? = some x -> acc.length <= i -> Pv i acc H -> (∀ acc' H', acc'.length <= i + 1 -> Pv (i + 1) acc' H' -> Nx acc' H') ->
      g x σc H fun σ2 H2 => Wk σc σ2 /\ tc σ2 H2 fun b H3 => if b = true then te σ2 H3 fun v H4 => Nx (acc ++ [v]) H4 else Nx acc H3)
    (hd : ∀ acc H D, acc.length <= xs.length -> Pv xs.length acc H -> H D = none -> Q (.ref D) (upd H D (.lst acc))) : CompW (Itx xs) σc g tc te Q H1 :=
  comp_by (xs := fun i x => xs[i]? = some x) Pv hn (fun i _ _ h _ => h) (fun _ _ _ => Nat.le_refl _) (fun i _ H x H' _ _ y => y) h0 hs hd
theorem comp_rng {lo : Int} {n : Nat} {σc : St} {g : TG} {tc : TT} {te : TE} {Q : VK} {H1 : Hp} (Pv : Nat -> List V -> Hp -> Prop) (hn : n < sizeLine) (h0 : Pv 0 [] H1)
    (hs : ∀ (i : Nat) (acc : List V) (H : Hp) (Nx : List V -> Hp -> Prop), i < n -> acc.length <= i -> Pv i acc H -> (∀ acc' H', acc'.length <= i + 1 -> Pv (i + 1) acc' H' -> Nx acc' H') ->
      g (.int (lo + i)) σc H fun σ2 H2 => Wk σc σ2 /\ tc σ2 H2 fun b H3 => if b = true then te σ2 H3 fun v H4 => Nx (acc ++ [v]) H4 else Nx acc H3)
    (hd : ∀ acc H D, acc.length <= n -> Pv n acc H -> H D = none -> Q (.ref D) (upd H D (.lst acc))) : CompW (Itr lo n) σc g tc te Q H1 :=
  comp_by (xs := fun i x => x = .int (lo + i)) Pv hn (fun i _ _ h _ => h) (fun _ _ _ => Nat.le_refl _) (fun i _ H x H' _ _ y => y) h0 (fun i x acc H Nx h1 h2 => by subst h2; exact hs i acc H Nx h1) hd
theorem comp_list {K : PySem.W.Frag} {a : Addr} {xs : List V} {σc : St} {g : TG} {tc : TT} {te : TE} {Q : VK} {H1 : Hp} (Pv : Nat -> List V -> Hp -> Prop) (hn : xs.length < sizeLine) (hl : ∀ i acc H, Pv i acc H -> SqL K H a xs) (h0 : Pv 0 [] H1)
    (hs : ∀ (i : Nat) (x : V) (acc : List V) (H : Hp) (Nx : List V -> Hp -> Prop), i < xs.length -> xs[i]? = some x -> acc.length <= i -> Pv i acc H -> (∀ acc' H', acc'.length <= i + 1 -> Pv (i + 1) acc' H' -> Nx acc' H') ->
      g x σc H fun σ2 H2 => Wk σc σ2 /\ tc σ2 H2 fun b H3 => if b = true then te σ2 H3 fun v H4 => Nx (acc ++ [v]) H4 else Nx acc H3)
    (hd : ∀ acc H D, acc.length <= xs.length -> Pv xs.length acc H -> H D = none -> Q (.ref D) (upd H D (.lst acc))) : CompW (Itl K a) σc g tc te Q H1 :=
  comp_by (xs := fun i x => xs[i]? = some x) Pv hn (fun i acc H h p => ⟨xs, xs[i], hl i acc H p, by simp [h]⟩) (fun acc H p => ⟨xs, hl _ acc H p, Nat.le_refl _⟩) (fun i acc H x H' h p y => ⟨y.1, y.2 xs (hl i acc H p)⟩) h0 hs hd
noncomputable def tWhileN (c : TT) (tb : TS) : TS := fun D σ H => ∃ W : Nat -> St -> Hp -> Prop, (∃ m, W m σ H) /\ ∀ m σ H, W m σ H ->
  c σ H fun b H1 => if b = true then tb { D with nx := fun σ' H' => ∃ m', m' < m /\ W m' σ' H', ct := fun σ' H' => ∃ m', m' < m /\ W m' σ' H', bk := D.nx } σ H1 else D.nx σ H1
theorem ps_whileN {X : Cx} {c : Expr} {body : List Stmt} {tc : TT} {tb : TS} {pos : Pos} (hp : PassesOwn (model X.prog X.w) X.A X.env X.xe) (hc : PT X c tc) (hb : PSs X body tb) : PS X (.While c body [] pos) (tWhileN tc tb) := by
  intro pins s σ H D I h
  obtain ⟨W, ⟨m0, w0⟩, turn⟩ := h
  refine wpAny_While (codeAny_whileLoop (fun n s' => ∃ σ' H', Inv X pins σ' H' s' /\ W n σ' H') ?_ m0 ⟨σ, H, I, w0⟩)
  rintro n s1 ⟨σ1, H1, I1, w1⟩
  refine wpAny_passesOwn hp (thn (hc pins s1 σ1 H1 _ I1 (turn n σ1 H1 w1)) fun b s2 ⟨H2, I2, q2⟩ => ?_)
  cases b with
  | true =>
    rw [if_pos rfl] at q2 ⊢
    refine wpAny_passesOwn hp (thn (hb pins s2 σ1 H2 _ I2 q2) fun f s3 q3 => ?_)
    cases f with
    | next =>
      obtain ⟨σ3, H3, I3, m', hm, w3⟩ := q3
      exact ⟨m', hm, σ3, H3, I3, w3⟩
    | cont =>
      obtain ⟨σ3, H3, I3, m', hm, w3⟩ := q3
      exact ⟨m', hm, σ3, H3, I3, w3⟩
    | brk => exact q3
    | ret v => exact q3
  | false =>
    rw [if_neg Bool.false_ne_true] at q2 ⊢
    exact wpAny_execs_nil ⟨σ1, H2, I2, q2⟩
noncomputable def compOk (X : Cx) (scope : Scope) : Bool := (scope.names.all fun y => y.2 != .cell) && (scope.kind == .function) && (scope.names.all fun y => y.2 != .free || X.env.kindOf y.1 == some .cell || X.env.kindOf y.1 == some .free) && (scope.names.all fun y => y.2 != .local || scope.names.lookup y.1 == some .local)
theorem compOk_parts {X : Cx} {scope : Scope} (h : compOk X scope = true) : (∀ y ∈ scope.names, y.2 ≠ .cell) /\ scope.kind = .function /\ (∀ y ∈ scope.names, y.2 = .free -> X.env.kindOf y.1 = some .cell \/ X.env.kindOf y.1 = some .free) /\ (∀ x ∈ scope.names, x.2 = .local -> scope.names.lookup x.1 = some .local) := by
  unfold compOk at h
  simp only [Bool.and_eq_true] at h
  obtain ⟨⟨⟨h1, h2⟩, h3⟩, h4⟩ := h
  refine ⟨fun y hy e => ?_, by simpa using h2, fun y hy e => ?_, fun y hy e => ?_⟩
  · have := List.all_eq_true.mp h1 y hy
    rw [e] at this; simp at this
  · have := List.all_eq_true.mp h3 y hy
    rw [e] at this
    simpa using this
  · have := List.all_eq_true.mp h4 y hy
    rw [e] at this
    simpa using this
theorem pe_compB {X : Cx} {tg iter elt : Expr} {ifs : List Expr} {scope : Scope} {pos : Pos} {wi : TI} {g : TG} {tc : TT} {te : TE} (Nc : List Str) (ix : List (Option Nat)) (hi : PI X tg iter wi) (hix : IxOk X scope Nc ix)
    (hG : ∀ C s H fp, PG (cxComp X scope C Nc s H fp) tg g) (hT : ∀ C s H fp, PF (cxComp X scope C Nc s H fp) ifs tc) (hE : ∀ C s H fp, PE (cxComp X scope C Nc s H fp) elt te) (hok : compOk X scope = true := by rfl) (hcalm : X.calm = true := by rfl)
    (hs : ∀ x, foldedSetIterable iter X.env x = pure x := by intro _; rfl) : PE X (.ListComp elt [⟨tg, iter, ifs, 0⟩] scope pos) (tComp wi ix g tc te) :=
  let ⟨h1, h2, h3, h4⟩ := compOk_parts hok
  pe_comp Nc ix hi hcalm hix h1 h2 h3 h4 hG hT hE hs
theorem ps_setCB {X : Cx} {i : Nat} {x : Str} {tg iter elt : Expr} {ifs : List Expr} {scope : Scope} {pos spos pos' : Pos} {wi : TI} {g : TG} {tc : TT} {te : TE} (Nc : List Str) (ix : List (Option Nat)) (hN : X.N.Nodup) (hxi : X.N[i]? = some x) (hx : Loc X.env.scope x)
    (hi : PI X tg iter wi) (hix : IxOk X scope Nc ix)
    (hG : ∀ C s H fp, PG (cxComp X scope C Nc s H fp) tg g) (hT : ∀ C s H fp, PF (cxComp X scope C Nc s H fp) ifs tc) (hE : ∀ C s H fp, PE (cxComp X scope C Nc s H fp) elt te)
    (hsw : swapsWith (.ListComp elt [⟨tg, iter, ifs, 0⟩] scope pos) (some (.Name x pos')) spos.line X.env = pure true := by rfl) (hok : compOk X scope = true := by rfl) (hcalm : X.calm = true := by rfl)
    (hs : ∀ x, foldedSetIterable iter X.env x = pure x := by intro _; rfl) (hf : X.fn x = true \/ X.env.scope.names.lookup x = some .local := by first | exact .inl rfl | exact .inr rfl | assumption) :
    PS X (.Assign [.Name x pos'] (.ListComp elt [⟨tg, iter, ifs, 0⟩] scope pos) spos) (tAsg (tComp wi ix g tc te) (gName i)) :=
  let ⟨h1, h2, h3, h4⟩ := compOk_parts hok
  ps_setC Nc ix hN hxi hx hsw hi hcalm hix h1 h2 h3 h4 hG hT hE hs hf
section
variable {X : Cx}
noncomputable def rEqS : R2 := fun x y H Q => ∃ a b, x = .str (S a) /\ y = .str (S b) /\ Q (.bl (decide (a = b))) H
noncomputable def rNeS : R2 := fun x y H Q => ∃ a b, x = .str (S a) /\ y = .str (S b) /\ Q (.bl (!decide (a = b))) H
theorem op_eqS : OpR X (compareOp .Eq) rEqS := by
  intro pins s σ H x y v u Q I rx ry h
  obtain ⟨a, b, rfl, rfl, q⟩ := h
  exact op_eq pins s σ H _ _ v u Q I rx ry ⟨rfl, by rw [dec_S]; exact q⟩
theorem op_neS : OpR X (compareOp .NotEq) rNeS := by
  intro pins s σ H x y v u Q I rx ry h
  obtain ⟨a, b, rfl, rfl, q⟩ := h
  exact op_ne pins s σ H _ _ v u Q I rx ry ⟨rfl, by rw [dec_S]; exact q⟩
theorem dec_I {i j : Int} : decide (V.int i = V.int j) = decide (i = j) := by
  by_cases h : i = j
  · subst h; simp
  · rw [decide_eq_false h, decide_eq_false]
    intro q
    exact h (V.int.inj q)
theorem dec_B {i j : Bool} : decide (V.bl i = V.bl j) = decide (i = j) := by
  by_cases h : i = j
  · subst h; simp
  · rw [decide_eq_false h, decide_eq_false]
    intro q
    exact h (V.bl.inj q)
theorem op_eqI : OpR X (compareOp .Eq) (rI0 fun i j => .bl (decide (i = j))) := by
  intro pins s σ H x y v u Q I rx ry h
  obtain ⟨a, b, rfl, rfl, q⟩ := h
  exact op_eq pins s σ H _ _ v u Q I rx ry ⟨rfl, by rw [dec_I]; exact q⟩
theorem op_neI : OpR X (compareOp .NotEq) (rI0 fun i j => .bl (!decide (i = j))) := by
  intro pins s σ H x y v u Q I rx ry h
  obtain ⟨a, b, rfl, rfl, q⟩ := h
  exact op_ne pins s σ H _ _ v u Q I rx ry ⟨rfl, by rw [dec_I]; exact q⟩
noncomputable def rB0 (g : Bool -> Bool -> V) : R2 := fun x y H Q => ∃ i j, x = .bl i /\ y = .bl j /\ Q (g i j) H
theorem op_eqB : OpR X (compareOp .Eq) (rB0 fun i j => .bl (decide (i = j))) := by
  intro pins s σ H x y v u Q I rx ry h
  obtain ⟨a, b, rfl, rfl, q⟩ := h
  exact op_eq pins s σ H _ _ v u Q I rx ry ⟨rfl, by rw [dec_B]; exact q⟩
end
end L2
namespace L2
open PySem PySem.Spec PyProof.Rows
section
variable {X : Cx} {tg : Expr}
theorem ix_listK (K : PySem.W.Frag) (h : X.K = K) : IxR X (rIxL K) := by subst h; exact ix_list
theorem ix_tupK (K : PySem.W.Frag) (h : X.K = K) : IxR X (rIxT K) := by subst h; exact ix_tup
noncomputable def rLenL (K : PySem.W.Frag) : List V -> Hp -> VK -> Prop := fun xs H Q => ∃ p ys, xs = [.ref p] /\ (SqL K H p ys \/ SqT K H p ys) /\ Q (.int ys.length) H
theorem call_len_seqK (K : PySem.W.Frag) (h : X.K = K) : CallR X (.builtin "len") (rLenL K) := by subst h; exact call_len_seq
theorem mt_joinK (K : PySem.W.Frag) (h : X.K = K) : MtR X "str.join" (rJoinS K) := by subst h; exact mt_joinS
noncomputable def rAllB (K : PySem.W.Frag) : List V -> Hp -> VK -> Prop := fun xs H Q => ∃ (p : Addr) (bs : List Bool), xs = [.ref p] /\ SqL K H p (bs.map V.bl) /\ Q (.bl (bs.all id)) H
theorem call_allK (K : PySem.W.Frag) (h : X.K = K) (hc : X.calm = true) : CallR X (.builtin "all") (rAllB K) := by subst h; exact call_allB hc
theorem sl_listK (K : PySem.W.Frag) (h : X.K = K) : SlR X (rSlL K) := by subst h; exact sl_list
theorem pi_listK (K : PySem.W.Frag) (h : X.K = K) {l : Expr} {tl : TE} (hl : PE X l tl) : PI X tg l (iList K tl) := by subst h; exact pi_list hl
theorem pi_tupK (K : PySem.W.Frag) (h : X.K = K) {l : Expr} {tl : TE} (hl : PE X l tl) : PI X tg l (iTup K tl) := by subst h; exact pi_tup hl
end
section
variable {X : Cx} {o e : Expr} {es : List Expr} {to : TE} {t : TA} {name : Str} {apos cpos : Pos} {T id : String} {r : V -> List V -> Hp -> VK -> Prop}
theorem pe_bm0K (K : PySem.W.Frag) (hK : X.K = K) (pa : PlainAttrs T) (slot : Slot T name id) (hty : typeOf (.builtin id) = pure (.type "method_descriptor")) (hm : MtR X id r) (ho : PE X o to)
    (hbase : attributeBase o name X.env (eval o X.env) = eval o X.env := by rfl) (hline : (apos.endLine == cpos.line) = true := by rfl) : PE X (.Call (.Attribute o name apos) [] [] cpos) (tBM0 K T r to) := by
  subst hK
  exact pe_bm0 pa slot hty hm ho hbase hline
theorem pe_bmK (K : PySem.W.Frag) (hK : X.K = K) (pa : PlainAttrs T) (slot : Slot T name id) (hty : typeOf (.builtin id) = pure (.type "method_descriptor")) (hm : MtR X id r) (ho : PE X o to) (ha : PA X (e :: es) t)
    (hbase : attributeBase o name X.env (eval o X.env) = eval o X.env := by rfl)
    (hfew : ((backTo cpos (starEach (e :: es) X.env)).all (fun x => !x.1) && (backToKw cpos (keywordEach [] X.env)).all (fun x => x.1.isSome)
      && decide ((e :: es).length + ([] : List Keyword).length + (if ([] : List Keyword).isEmpty then 0 else 1) < 30)) = true := by rfl)
    (hline : (apos.endLine == cpos.line) = true := by rfl) (hs : starEach (e :: es) X.env = (false, eval e X.env) :: starEach es X.env := by rfl) (hplain : (backTo cpos (starEach es X.env)).any (·.1) = false := by rfl) :
    PE X (.Call (.Attribute o name apos) (e :: es) [] cpos) (tBM K T r to t) := by
  subst hK
  exact pe_bm pa slot hty hm ho ha hbase hfew hline hs hplain
end
end L2
namespace L2
open PySem PySem.Spec PyProof.Rows
mutual
inductive RdD (K : PySem.W.Frag) (H : Hp) : V -> PyData -> Prop
  | non : RdD K H .non .none
  | bl (b : Bool) : RdD K H (.bl b) (.bool b)
  | int (i : Int) : RdD K H (.int i) (.int i)
  | str (x : Str) : RdD K H (.str x) (.str x)
  | lst {a : Addr} {xs : List V} {ds : List PyData} (h : SqL K H a xs) (r : RdDs K H xs ds) : RdD K H (.ref a) (.list ds)
  | tup {a : Addr} {xs : List V} {ds : List PyData} (h : SqT K H a xs) (r : RdDs K H xs ds) : RdD K H (.ref a) (.tuple ds)
inductive RdDs (K : PySem.W.Frag) (H : Hp) : List V -> List PyData -> Prop
  | nil : RdDs K H [] []
  | cons {x : V} {xs : List V} {d : PyData} {ds : List PyData} (h : RdD K H x d) (r : RdDs K H xs ds) : RdDs K H (x :: xs) (d :: ds)
end
section
variable {X : Cx} {pins : List (Addr × Obj)} {σ : St} {H : Hp} {s : Shared}
mutual
theorem RdD.reads (I : Inv X pins σ H s) : ∀ {x : V} {d : PyData} {u : Value}, RdD X.K H x d -> RelV x u -> ∃ as, Reads s.heap u d as
  | _, _, u, .non, r => by cases (show u = Value.none from r); exact ⟨_, .none⟩
  | _, _, u, .bl b, r => by cases (show u = Value.bool b from r); exact ⟨_, .bool b⟩
  | _, _, u, .int i, r => by obtain ⟨t, rfl⟩ := r; exact ⟨_, .int i t⟩
  | _, _, u, .str x, r => by obtain ⟨t, rfl⟩ := r; exact ⟨_, .str x t⟩
  | _, _, u, .lst (a := a) h q, r => by
    cases (show u = Value.ref a from r)
    obtain ⟨its, rv, pl, _⟩ := I.list h
    obtain ⟨as, ra⟩ := RdDs.reads I q rv
    obtain ⟨o, ho, hc, n, hd⟩ := pl.isList
    exact ⟨_, .list ho hc hd (by simpa using ra)⟩
  | _, _, u, .tup (a := a) h q, r => by
    cases (show u = Value.ref a from r)
    obtain ⟨its, rv, pl, _⟩ := I.tuple h
    obtain ⟨as, ra⟩ := RdDs.reads I q rv
    obtain ⟨o, ho, hc, n, hd⟩ := pl
    exact ⟨_, .tuple ho hc hd (by simpa using ra)⟩
theorem RdDs.reads (I : Inv X pins σ H s) : ∀ {xs : List V} {ds : List PyData} {us : List Value}, RdDs X.K H xs ds -> Vals xs us -> ∃ as, ReadsAll s.heap us ds as
  | _, _, us, .nil, r => by cases r; exact ⟨_, .nil⟩
  | _, _, us, .cons h q, r => by
    cases r with
    | cons r1 r2 =>
      obtain ⟨as, ra⟩ := RdD.reads I h r1
      obtain ⟨bs, rb⟩ := RdDs.reads I q r2
      exact ⟨_, .cons ra rb⟩
end
mutual
theorem RdD.noDict {K : PySem.W.Frag} : ∀ {x : V} {d : PyData}, RdD K H x d -> d.hasDict = false
  | _, _, .non => rfl
  | _, _, .bl b => rfl
  | _, _, .int i => rfl
  | _, _, .str x => rfl
  | _, _, .lst h q => by show PyData.hasDictAll _ = false; exact RdDs.noDict q
  | _, _, .tup h q => by show PyData.hasDictAll _ = false; exact RdDs.noDict q
theorem RdDs.noDict {K : PySem.W.Frag} : ∀ {xs : List V} {ds : List PyData}, RdDs K H xs ds -> PyData.hasDictAll ds = false
  | _, _, .nil => rfl
  | _, _, .cons h q => by
    show (PyData.hasDict _ || PyData.hasDictAll _) = false
    rw [RdD.noDict h, RdDs.noDict q]; rfl
end
end
section
variable {X : Cx}
noncomputable def rEqD (K : PySem.W.Frag) : R2 := fun x y H Q => ∃ dx dy, RdD K H x dx /\ RdD K H y dy /\ (dx.canLay0 = true /\ dy.canLay0 = true) /\ dx.depth <= 60 /\ Q (.bl (PyData.eqv dx dy)) H
noncomputable def rNeD (K : PySem.W.Frag) : R2 := fun x y H Q => ∃ dx dy, RdD K H x dx /\ RdD K H y dy /\ (dx.canLay0 = true /\ dy.canLay0 = true) /\ dx.depth <= 60 /\ Q (.bl (!PyData.eqv dx dy)) H
theorem op_eqD {k : Nat} (K : PySem.W.Frag) (h : X.K = K) (hr : Room k X.A) : OpR X (compareOp .Eq) (rEqD K) := by
  subst h
  intro pins s σ H x y v u Q I rx ry h
  obtain ⟨dx, dy, h1, h2, ⟨h3, h4⟩, h5, q⟩ := h
  obtain ⟨as, ra⟩ := h1.reads I rx
  obtain ⟨bs, rb⟩ := h2.reads I ry
  have hu := hr.units
  exact SeqAt.compareEq_reads ra rb h3 h4 (by omega) ⟨.bl _, H, I, rfl, q⟩
theorem op_neD {k : Nat} (K : PySem.W.Frag) (h : X.K = K) (hr : Room k X.A) : OpR X (compareOp .NotEq) (rNeD K) := by
  subst h
  intro pins s σ H x y v u Q I rx ry h
  obtain ⟨dx, dy, h1, h2, ⟨h3, h4⟩, h5, q⟩ := h
  obtain ⟨as, ra⟩ := h1.reads I rx
  obtain ⟨bs, rb⟩ := h2.reads I ry
  have hu := hr.units
  exact SeqAt.compareNe_reads ra rb h3 h4 (by omega) ⟨.bl _, H, I, rfl, q⟩
theorem pg_tupK (K : PySem.W.Frag) (h : X.K = K) {es : List Expr} {k : Nat} {t : TGs} {n : Nat} {pos : Pos} (hc : X.calm = true) (hs : PGs X es t)
    (hn : (assignEach es X.env).length = n := by rfl) (hst : (assignEach es X.env).findIdx? (·.1) = none := by rfl) : PG X (.Tuple es k pos) (gTup K n t) := by
  subst h
  exact pg_tup hc hs hn hst
end
end L2
namespace L2
open PySem PySem.Spec PyProof.Rows
section
variable {X : Cx}
end
end L2
namespace L2
open PySem PySem.Spec PyProof.Rows
section
variable {X : Cx}
theorem op_inK (K : PySem.W.Frag) (h : X.K = K) : OpR X (compareOp .In) (rIn K false) := by subst h; exact op_in_seq
structure SmD (k n : Nat) (d : PyData) : Prop where
  lv : d.leavesShort 13 = true
  sh : d.showable = true
  ly : d.canLay0 = true
  dp : d.depth <= k
  wt : d.weight <= n
structure SmDs (k n : Nat) (ds : List PyData) : Prop where
  lv : PyData.leavesShortAll 13 ds = true
  sh : PyData.showableAll ds = true
  ly : PyData.canLayAll0 ds = true
  dp : PyData.depthAll ds <= k
  wt : PyData.weightAll ds <= n
end
end L2
namespace L2
open PySem PySem.Spec PyProof.Rows
noncomputable def reps (n : Nat) (l : List Nat) : List Nat := (List.replicate n l).flatten
theorem reps_succ (n : Nat) (l : List Nat) : reps (n + 1) l = l ++ reps n l := by unfold reps; rw [List.replicate_succ, List.flatten_cons]
theorem reps_len (n : Nat) (l : List Nat) : (reps n l).length = n * l.length := by
  induction n with
  | zero => simp [reps]
  | succ n ih => rw [reps_succ, List.length_append, ih, Nat.succ_mul, Nat.add_comm]
theorem reps_fold (l : List Nat) : ∀ (n : Nat) (acc : Array Nat), ((List.replicate n (S l).cps).foldl (· ++ ·) acc).toList = acc.toList ++ reps n l
  | 0, acc => by simp [reps]
  | n + 1, acc => by
    rw [List.replicate_succ, List.foldl_cons, reps_fold l n, reps_succ]
    simp [S]
noncomputable def rMulS : R2 := fun x y H Q => ∃ (l : List Nat) (i : Int), x = .str (S l) /\ y = .int i /\ (0 <= i /\ i <= 1000000) /\ l.length * i.toNat <= sizeLine /\ Q (.str (S (reps i.toNat l))) H
theorem op_mulS {X : Cx} : OpR X (binaryOp .Mult) rMulS := by
  intro pins s σ H x y v u Q I rx ry h
  obtain ⟨l, i, rfl, rfl, ⟨h0, h1⟩, hz, q⟩ := h
  obtain ⟨t, rfl⟩ := rx
  obtain ⟨t', rfl⟩ := ry
  have hn := line63
  have hln : (S l).length = l.length := S_len l
  have hbig : (l.length : Int) * i <= 2 ^ 63 - 1 := by
    have e : ((l.length * i.toNat : Nat) : Int) = (l.length : Int) * i := by rw [Int.natCast_mul, Int.toNat_of_nonneg h0]
    have : ((l.length * i.toNat : Nat) : Int) <= (sizeLine : Int) := by exact_mod_cast hz
    rw [<- e]; omega
  refine P.mul_str (x := S l) (n := i) (t := t) (u := t') (by
    have e1 : decide (i < -(2 ^ 63 : Int)) = false := decide_eq_false (by omega)
    have e2 : decide (i ≥ 2 ^ 63) = false := decide_eq_false (by omega)
    rw [e1, e2]; rfl) (fun z _ => ?_) (fun z _ => ?_) ?_
  · rw [hln]
    have : (l.length : Int) <= (2 ^ 63 - 1) / i := (Int.le_ediv_iff_mul_le (by omega)).mpr hbig
    omega
  · rw [hln]
    show Builtin.Str.tooLong _ = false
    unfold Builtin.Str.tooLong
    exact decide_eq_false (by omega)
  · by_cases z : i < 1
    · rw [if_pos z]
      have e : i.toNat = 0 := by omega
      rw [e] at q
      exact ⟨by decide, .str _, H, I.tok _, ⟨_, rfl⟩, q⟩
    · rw [if_neg z]
      by_cases z2 : (i == 1 || (S l).length == 0) = true
      · rw [if_pos z2]
        have e : reps i.toNat l = l := by
          rcases Bool.or_eq_true _ _ |>.mp z2 with e | e
          · have e : i = 1 := by simpa using e
            subst e
            show reps 1 l = l
            rw [reps_succ]; simp [reps]
          · have e : l.length = 0 := by rw [hln] at e; simpa using e
            have e : l = [] := List.length_eq_zero_iff.mp e
            subst e
            unfold reps
            simp
        rw [e] at q
        exact ⟨.str _, H, I, ⟨_, rfl⟩, q⟩
      · rw [if_neg z2]
        have e : (⟨(List.replicate i.toNat (S l).cps).foldl (· ++ ·) #[]⟩ : Str) = S (reps i.toNat l) := by
          have := reps_fold l i.toNat #[]
          show _ = (⟨(reps i.toNat l).toArray⟩ : Str)
          congr 1
          apply Array.toList_inj.mp
          rw [this]
          simp
        rw [e]
        refine ⟨?_, .str _, H, I.tok _, ⟨_, rfl⟩, q⟩
        rw [S_len, reps_len, Nat.mul_comm]
        exact hz
end L2
namespace L2
open PySem PySem.Spec PyProof.Rows
section
variable {X : Cx}
end
end L2
namespace L2
open PySem PySem.Spec PyProof.Rows
section
variable {X : Cx} {pins : List (Addr × Obj)} {σ : St} {H : Hp} {s : Shared} {h' : Heap}
theorem Inv.turnLaid {t' : Nat} {ch : List Addr} {T : Addr} {ob : HO} (I : Inv X pins σ H s) (k : ∀ b o, b ∉ ch -> s.heap.get? b = some o -> h'.get? b = some o) (hf : ∀ b ∈ ch, FpOk X pins H b)
    (hT : s.heap.objs.size <= T) (new : ObjOk X.prog X.w (upd H T ob) h' T ob) : Inv X pins σ (upd H T ob) { s with heap := h', toks := t' } := by
  have hn := I.hok.fresh hT
  have nit : ∀ b u, H b = some u -> b ∉ ch := fun b u e z => by rw [(hf b z).1] at e; cases e
  have neT : ∀ b o, s.heap.get? b = some o -> b ≠ T := fun b o e z => absurd (Nat.lt_of_lt_of_le (Heap.lt_size e) hT) (by rw [z]; exact Nat.lt_irrefl _)
  refine I.step (g' := s.gens) (d' := s.drawn) (ch := ch) (fun b hb => ?_) (fun b o _ _ hc e _ => k b o hc e) (fun b o _ _ hc e _ => ⟨o.slots, k b o hc e⟩) (fun b o _ e n => by rw [upd_ne (neT b o e)]; exact n)
    (fun b o hc e => ⟨o, k b o hc e⟩) (fun b xs e => by rw [upd_ne (ne_of_none e hn)]; exact e) (fun b o u e => by rw [upd_ne (ne_of_none e hn)]; exact e) (fun b ps e => ⟨#[], by rw [upd_ne (ne_of_none e hn), e]; simp⟩) (fun m hm => ?_) (fun b u e => ?_) I.bare
  · obtain ⟨_, h2, _, h4, h5, h6⟩ := hf b hb
    exact ⟨h4, h2, h5, h6⟩
  · obtain ⟨o, es, ep, ho, r⟩ := hm
    exact ⟨o, es, ep, k _ o (fun z => (hf _ z).2.1 rfl) ho, r⟩
  · by_cases hb : b = T
    · subst hb; rw [upd_same] at e; cases e; exact new
    · rw [upd_ne hb] at e
      refine (I.hok b u e).stay (fun c v hc q => k c v ?_ q) (fun c q => by rw [upd_ne (ne_of_none q hn)]; exact q) fun c xs q => by rw [upd_ne (ne_of_none q hn)]; exact q
      rcases hc with z | z
      · rw [z]; exact nit b u e
      · exact nit c _ z
theorem Inv.turnedL {t' : Nat} {ch : List Addr} (I : Inv X pins σ H s) (k : ∀ b o, b ∉ ch -> s.heap.get? b = some o -> h'.get? b = some o) (hf : ∀ b ∈ ch, FpOk X pins H b) : Inv X pins σ H { s with heap := h', toks := t' } := by
  have nit : ∀ b u, H b = some u -> b ∉ ch := fun b u e z => by rw [(hf b z).1] at e; cases e
  refine I.step (g' := s.gens) (d' := s.drawn) (ch := ch) (fun b hb => ?_) (fun b o _ _ hc e _ => k b o hc e) (fun b o _ _ hc e _ => ⟨o.slots, k b o hc e⟩) (fun b o _ e n => n)
    (fun b o hc e => ⟨o, k b o hc e⟩) (fun b xs e => e) (fun b o u e => e) (fun b ps e => ⟨#[], by rw [e]; simp⟩) (fun m hm => ?_) (fun b u e => ?_) I.bare
  · obtain ⟨_, h2, _, h4, h5, h6⟩ := hf b hb
    exact ⟨h4, h2, h5, h6⟩
  · obtain ⟨o, es, ep, ho, r⟩ := hm
    exact ⟨o, es, ep, k _ o (fun z => (hf _ z).2.1 rfl) ho, r⟩
  · refine (I.hok b u e).stay (fun c v hc q => k c v ?_ q) (fun c q => q) fun c xs q => q
    rcases hc with z | z
    · rw [z]; exact nit b u e
    · exact nit c _ z
end
section
variable {X : Cx}
end
end L2
namespace L2
open PySem PySem.Spec PyProof.Rows
section
variable {X : Cx}
end
end L2
namespace L2
open PySem PySem.Spec PyProof.Rows
section
variable {X : Cx}
theorem pe_gS {x : Str} {pos : Pos} (l : List Nat) (hg : Gl X x) (hm : ∃ t, X.mg x = some (.str (S l) t)) (hd : (x == ("__debug__" : Str)) = false := by decide) : PE X (.Name x pos) (tC (.str (S l))) := by
  obtain ⟨t, e⟩ := hm
  exact pe_glob hg e ⟨t, rfl⟩ hd
theorem pe_gI {x : Str} {pos : Pos} (i : Int) (hg : Gl X x) (hm : ∃ t, X.mg x = some (.int i t)) (hd : (x == ("__debug__" : Str)) = false := by decide) : PE X (.Name x pos) (tC (.int i)) := by
  obtain ⟨t, e⟩ := hm
  exact pe_glob hg e ⟨t, rfl⟩ hd
end
end L2
namespace L2
open PySem PySem.Spec PyProof.Rows
section
variable {prog : Program} {w : World} {A : Around} {E : Value -> Shared -> Prop} {s : Shared}
theorem nextT_item {it tp : Addr} {j : Nat} {xs : Array Value} {y : Value} {Q : Value -> Shared -> Prop} (hi : s.heap.IsTupleIter it tp j) (ht : s.heap.IsTuple tp xs) (hy : xs[j]? = some y)
    (q : ∀ h2, h2.IsTupleIter it tp (j + 1) -> Heap.SameBut it s.heap h2 -> Q y { s with heap := h2 }) : wpAny (model prog w) A (Builtin.SmallTypes.nextOf (.ref it)) Q E s := by
  obtain ⟨oi, eo, ec, ed⟩ := id hi
  obtain ⟨ot, et, _, nt, dt⟩ := ht
  unfold Builtin.SmallTypes.nextOf
  refine wpAny_bind (wpAny_callSpecial?_slot (name := Str.ofString "__next__") hi.typeIs F.slot_tuple_iterator_next (wpAny_call_entry F.slot_tuple_iterator_next hi.typeIs F.entry_tuple_iterator_next ?_ (F.args_tuple_iterator_next_1 _)))
  refine wpAny_bind (m := field (.ref it) 0) (wpAny_field eo ed (x := .ref tp) rfl ?_)
  show wpAny (model prog w) _ (if (Value.ref tp == Value.none) = true then _ else _) _ E s
  rw [if_neg (show ¬ (Value.ref tp == Value.none) = true from Bool.false_ne_true)]
  refine wpAny_bind (m := field (.ref it) 1) (wpAny_field eo ed (x := .int j 0) rfl ?_)
  refine wpAny_bind (m := seqItems? (.ref tp)) (wpAny_seqItems et dt ?_)
  simp only [Int.toNat_natCast, hy]
  refine wpAny_bind (wpAny_setField eo ed (by simp) (wpAny_pure ⟨y, rfl, wpAny_pure (q _ ⟨_, Heap.get?_update_self _ eo (Obj.isFreed_of_fields (Obj.data_mapFields ed _)), (Obj.cls_mapFields ..).trans ec, by rw [Obj.data_mapFields ed]; simp [rawInt]⟩ (Heap.SameBut.update ..))⟩))
theorem nextT_end {it tp : Addr} {j : Nat} {xs : Array Value} {Q : Value -> Shared -> Prop} (hh : A.handled = none) (hi : s.heap.IsTupleIter it tp j) (ht : s.heap.IsTuple tp xs) (hy : xs[j]? = none)
    (q : ∀ h2 e, Heap.ExtBut it s.heap h2 -> (∃ o, h2.get? e = some o /\ o.cls = .type "StopIteration") -> E (.ref e) { s with heap := h2 }) : wpAny (model prog w) A (Builtin.SmallTypes.nextOf (.ref it)) Q E s := by
  obtain ⟨oi, eo, ec, ed⟩ := id hi
  obtain ⟨ot, et, _, nt, dt⟩ := ht
  unfold Builtin.SmallTypes.nextOf
  refine wpAny_bind (wpAny_callSpecial?_slot (name := Str.ofString "__next__") hi.typeIs F.slot_tuple_iterator_next (wpAny_call_entry F.slot_tuple_iterator_next hi.typeIs F.entry_tuple_iterator_next ?_ (F.args_tuple_iterator_next_1 _)))
  refine wpAny_bind (m := field (.ref it) 0) (wpAny_field eo ed (x := .ref tp) rfl ?_)
  show wpAny (model prog w) _ (if (Value.ref tp == Value.none) = true then _ else _) _ E s
  rw [if_neg (show ¬ (Value.ref tp == Value.none) = true from Bool.false_ne_true)]
  refine wpAny_bind (m := field (.ref it) 1) (wpAny_field eo ed (x := .int j 0) rfl ?_)
  refine wpAny_bind (m := seqItems? (.ref tp)) (wpAny_seqItems et dt ?_)
  simp only [Int.toNat_natCast, hy]
  refine wpAny_bind (wpAny_rule (wpAny_bind (wpAny_setField eo ed (by simp) ?_)))
  refine wpAny_bind (m := newExc (.type "StopIteration") []) ?_
  simp only [newExc, newTuple]
  refine wpAny_bind (wpAny_newObj_type (wpAny_bind (m := firstArgMember _ _) (wpAny_of_eq (a := Value.none) (by first | rfl | (simp only [firstArgMember]; rfl)) (wpAny_newObj_type ?_ (by size_fits)))) (by size_fits))
  simp only [raiseNew]
  refine wpAny_bind (wpAny_handled ?_); first | rw [show A.in1.handled = none from hh] | rw [hh]
  exact wpAny_bind (wpAny_pure (wpAny_throw (q _ _ (((Heap.SameBut.update ..).extBut.push _).push _) ⟨_, Heap.get?_push_size _ rfl, rfl⟩)))
theorem draws_tuple (hh : A.handled = none) (it tp : Addr) (ne : tp ≠ it) (xs : Array Value) :
    Draws prog w A it [it, tp] xs.size (fun i v => xs[i]? = some v) (fun i h => h.IsTupleIter it tp i /\ h.IsTuple tp xs) where
  live := fun _ _ z => let ⟨o, e, _⟩ := z.1; ⟨o, e⟩
  frame := fun _ _ _ z k => by
    obtain ⟨⟨o, e, r⟩, o2, e2, r2⟩ := z
    exact ⟨⟨o, k it (by simp) o e, r⟩, o2, k tp (by simp) o2 e2, r2⟩
  item := fun i s Q E hi z q => nextT_item z.1 z.2 (y := xs[i]) (by simp [hi]) fun h2 z2 sb => q _ h2 s.toks (by simp [hi]) ⟨z2, z.2.extBut sb.extBut ne⟩ sb
  done := fun s Q E z q => nextT_end hh z.1 z.2 (by simp) q
end
noncomputable def ItEL (K : PySem.W.Frag) (a : Addr) : It := ⟨fun i H => ∃ xs x, SqL K H a xs /\ xs[i]? = some x, fun i H x H' => ∃ T y, (∀ xs, SqL K H a xs -> xs[i]? = some y) /\ x = .ref T /\ H T = none /\ H' = upd H T (.tup [.int i, y]), fun i H => ∃ xs, SqL K H a xs /\ xs.length = i⟩
theorem turn_enumL {P : Program} {w : World} {K : PySem.W.Frag} {elts : List Expr} {k : Nat} {pos : Pos} (e it a : Addr) (hei : e ≠ it) (hae : a ≠ e) (hai : a ≠ it) :
    Turn P w K (.Tuple elts k pos) (ItEL K a) [e, it] e (fun i h => (∃ old, IsEnum h e it i old) /\ h.IsListIter it a i) where
  mem := by simp
  obj := fun i h st b hb => by
    obtain ⟨⟨old, he⟩, o, ho, hc, hd⟩ := st
    rcases List.mem_cons.mp hb with z | z
    · rw [z]; exact ⟨_, he, fun v z => by cases z⟩
    · rw [List.mem_singleton.mp z]; exact ⟨o, ho, fun v z => by rw [hd] at z; cases z⟩
  keep := fun i h h' st kp => by
    obtain ⟨⟨old, he⟩, o, ho, r⟩ := st
    exact ⟨⟨old, kp e (by simp) _ he⟩, o, kp it (by simp) o ho, r⟩
  item := by
    intro X hP hw hK hc i pins s σ H E I hf st hg
    subst hP hw hK
    obtain ⟨st1, st2⟩ := st
    obtain ⟨xs, x, hq, hx⟩ := hg
    obtain ⟨its, rv, p, hz⟩ := I.list hq
    obtain ⟨u0, hu, ru⟩ := rv.get hx
    have D := Draws.list (prog := X.prog) (w := X.w) (A := X.A.in1) (I.ok.hd hc) it a hai its.toArray
    have W := WalksT.enumerateD D e hei (by simp; exact ⟨hei, Ne.symm hae⟩) (by simp)
    have hil : i < its.toArray.size := by rw [List.size_toArray]; exact (List.getElem?_eq_some_iff.mp hu).1
    refine W.item i s _ _ hil ⟨st1, st2, p.isList⟩ fun T vals h' tk hPt hT hTup hMid hk => ⟨_, rfl, ?_⟩
    refine W.go elts k pos i T { s with heap := h', toks := tk } _ _ hMid fun h2 hst2 hk2 => ?_
    obtain ⟨tt, x2, hx2, rfl⟩ := hPt
    have ex : x2 = u0 := by
      rw [List.getElem?_toArray] at hx2
      exact Option.some.inj (hx2.symm.trans hu)
    subst ex
    have hTw : T ∉ [e, it] := W.apart i T h' hMid
    have hTup2 : h2.IsTuple T #[.int i tt, x2] := by
      obtain ⟨o, ho, r⟩ := hTup
      exact ⟨o, hk2 T o hTw ho, r⟩
    refine ⟨.ref T, upd H T (.tup [.int i, x]), ?_, rfl, ⟨T, x, fun ys hy => by rw [I.list_inj hy hq]; exact hx, rfl, I.hok.fresh hT, rfl⟩, ⟨hst2.1, hst2.2.1⟩, fun b hb => ?_⟩
    · refine I.turnLaid (t' := tk) (h' := h2) (fun b o hb y => hk2 b o hb (hk b o hb y)) hf hT ?_
      exact ⟨by show 2 <= sizeLine; decide, [.int i tt, x2], .cons ⟨tt, rfl⟩ (.cons ru .nil), hTup2⟩
    · rw [upd_ne (fun z : b = T => hTw (z ▸ hb))]; exact (hf b hb).1
  done := by
    intro X hP hw hK hc i pins s σ H E I hf st hg
    subst hP hw hK
    obtain ⟨st1, st2⟩ := st
    obtain ⟨xs, hq, hx⟩ := hg
    obtain ⟨its, rv, p, hz⟩ := I.list hq
    have hl := rv.length
    have D := Draws.list (prog := X.prog) (w := X.w) (A := X.A.in1) (I.ok.hd hc) it a hai its.toArray
    have W := WalksT.enumerateD D e hei (by simp; exact ⟨hei, Ne.symm hae⟩) (by simp)
    refine W.done s _ _ ?_ fun h' tk hk => ⟨rfl, I.turnedL (t' := tk) hk hf⟩
    have e1 : its.toArray.size = i := by rw [List.size_toArray]; omega
    rw [e1]
    exact ⟨st1, st2, p.isList⟩
  self := fun _ _ s _ _ st h => by
    obtain ⟨⟨old, he⟩, _⟩ := st
    exact wpAny_pyIter_enum he h
noncomputable def iEnumL (K : PySem.W.Frag) (ta : TA) : TI := fun σ H R => ta σ H fun vs H1 => ∃ a, vs = [.ref a] /\ (∃ xs, SqL K H1 a xs) /\ R (ItEL K a) H1
theorem pi_enumL {X : Cx} (K : PySem.W.Frag) (hK : X.K = K) {elts : List Expr} {k : Nat} {pos' : Pos} {a : Expr} {ta : TA} {p pos : Pos} (hg : Gl X "enumerate") (hm : X.mg "enumerate" = none) (ha : PA X [a] ta) (hs : starEach [a] X.env = [(false, eval a X.env)] := by rfl) : PI X (.Tuple elts k pos') (.Call (.Name "enumerate" p) [a] [] pos) (iEnumL K ta) := by
  subst hK
  intro pins s σ H R I h
  refine Call_ (ld_blt I hg hm boot_enumerate (PyProof.Rows.callWith_type1 (thn (ha pos pins s σ H _ I h) fun us s1 ⟨vs, H1, I1, r1, q1⟩ => ?_) hs rfl))
  obtain ⟨b, rfl, ⟨xs, hq⟩, q⟩ := q1
  obtain ⟨u, rfl, ru⟩ := vals1 r1
  cases ru
  obtain ⟨its, rv, pl, hz⟩ := I1.list hq
  obtain ⟨ob, eb, _⟩ := id pl.isList
  have hlt : b < s1.heap.objs.size := Heap.lt_size eb
  refine call_enumerate_list pl.isList fun h' he hit hsz hk => wpAny_pyIter_enum he ?_
  refine ⟨s1.heap.objs.size + 1, [s1.heap.objs.size + 1, s1.heap.objs.size], _, _, H1, rfl, I1.kept (t' := s1.toks) hk, turn_enumL _ _ b (Nat.succ_ne_self _) (Nat.ne_of_lt (Nat.lt_succ_of_lt hlt)) (Nat.ne_of_lt hlt), ⟨⟨_, he⟩, hit⟩, fun c hb => ?_, q⟩
  have hb2 : s1.heap.objs.size <= c := by
    rcases List.mem_cons.mp hb with z | z
    · rw [z]; exact Nat.le_succ _
    · rw [List.mem_singleton.mp z]; exact Nat.le_refl _
  exact I1.fpOk hb2 (I1.hok.fresh hb2)
theorem for_enumL {K : PySem.W.Frag} {a : Addr} {xs : List V} {g : TG} {tb : TS} {D : Ends} {σ : St} {H : Hp} (Pv : Nat -> St -> Hp -> Prop) (h0 : Pv 0 σ H) (hl : ∀ i σ H, i <= xs.length -> Pv i σ H -> SqL K H a xs)
    (hs : ∀ i x σ H T, xs[i]? = some x -> Pv i σ H -> H T = none -> g (.ref T) σ (upd H T (.tup [.int i, x])) fun σ2 H2 => tb { D with nx := Pv (i + 1), ct := Pv (i + 1), bk := D.nx } σ2 H2) (hd : ∀ σ H, Pv xs.length σ H -> D.nx σ H) :
    ∃ W : Nat -> Nat -> St -> Hp -> Prop, (∃ m, W 0 m σ H) /\ ∀ i m σ H, W i m σ H ->
      ((ItEL K a).stop i H /\ D.nx σ H) \/ ((ItEL K a).go i H /\ ∃ N : St -> Hp -> Prop, (∀ σ' H', N σ' H' -> ∃ m', m' < m /\ W (i + 1) m' σ' H') /\ ∀ x H', (ItEL K a).yld i H x H' -> g x σ H' fun σ2 H2 => tb { D with nx := N, ct := N, bk := D.nx } σ2 H2) := by
  refine ⟨fun i m σ H => m = xs.length - i /\ i <= xs.length /\ Pv i σ H, ⟨xs.length, by simp, Nat.zero_le _, h0⟩, ?_⟩
  rintro i m σ H ⟨rfl, hi, p⟩
  have hq := hl i σ H hi p
  by_cases hlt : i < xs.length
  · refine .inr ⟨⟨xs, xs[i], hq, by simp [hlt]⟩, Pv (i + 1), fun σ' H' p' => ⟨xs.length - (i + 1), by omega, rfl, hlt, p'⟩, fun x H' y => ?_⟩
    obtain ⟨T, z, hz, rfl, hn, rfl⟩ := y
    exact hs i z σ _ T (hz xs hq) p hn
  · have e : i = xs.length := by omega
    subst e
    exact .inl ⟨⟨xs, hq, rfl⟩, hd σ H p⟩
section
variable {X : Cx}
end
end L2
namespace L2
open PySem PySem.Spec PyProof.Rows
section
variable {X : Cx}
noncomputable def rTupOf (K : PySem.W.Frag) : List V -> Hp -> VK -> Prop := fun xs H Q => ∃ p ys, xs = [.ref p] /\ ((SqL K H p ys /\ ∀ l, H l = none -> Q (.ref l) (upd H l (.tup ys))) \/ (SqT K H p ys /\ Q (.ref p) H))
theorem call_tuple_ofK (K : PySem.W.Frag) (h : X.K = K) : CallR X (.type "tuple") (rTupOf K) := by subst h; exact call_tuple_of
end
end L2
namespace L2
open PySem PySem.Spec PyProof.Rows
theorem comp_tup {K : PySem.W.Frag} {a : Addr} {xs : List V} {σc : St} {g : TG} {tc : TT} {te : TE} {Q : VK} {H1 : Hp} (Pv : Nat -> List V -> Hp -> Prop) (hn : xs.length < sizeLine) (hl : ∀ i acc H, Pv i acc H -> SqT K H a xs) (h0 : Pv 0 [] H1)
    (hs : ∀ (i : Nat) (x : V) (acc : List V) (H : Hp) (Nx : List V -> Hp -> Prop), i < xs.length -> xs[i]? = some x -> acc.length <= i -> Pv i acc H -> (∀ acc' H', acc'.length <= i + 1 -> Pv (i + 1) acc' H' -> Nx acc' H') ->
      g x σc H fun σ2 H2 => Wk σc σ2 /\ tc σ2 H2 fun b H3 => if b = true then te σ2 H3 fun v H4 => Nx (acc ++ [v]) H4 else Nx acc H3)
    (hd : ∀ acc H D, acc.length <= xs.length -> Pv xs.length acc H -> H D = none -> Q (.ref D) (upd H D (.lst acc))) : CompW (Itt K a) σc g tc te Q H1 :=
  comp_by (xs := fun i x => xs[i]? = some x) Pv hn (fun i acc H h p => ⟨xs, xs[i], hl i acc H p, by simp [h]⟩) (fun acc H p => ⟨xs, hl _ acc H p, Nat.le_refl _⟩) (fun i acc H x H' h p y => ⟨y.1, y.2 xs (hl i acc H p)⟩) h0 hs hd
noncomputable def TSame (H H' : Hp) : Prop := ∀ c xs, H c = some (.tup xs) -> H' c = some (.tup xs)
theorem TSame.trans {H H1 H2 : Hp} (a : TSame H H1) (b : TSame H1 H2) : TSame H H2 := fun c xs h => b c xs (a c xs h)
theorem TSame.updL {H : Hp} {p : Addr} {ys : List V} {o : HO} (h : H p = some (.lst ys)) : TSame H (upd H p o) := fun c xs e => by
  rw [upd_ne (fun z => by rw [z, h] at e; cases e)]; exact e
end L2
namespace L2
open PySem PySem.Spec PyProof.Rows
section
variable {prog : Program} {w : World} {A : Around} {E : Value -> Shared -> Prop} {s : Shared}
noncomputable def PairAt (h : Heap) (v : Value) (n : Int × Int) : Prop := ∃ x ox t1 t2 m, v = .ref x /\ h.get? x = some ox /\ ox.cls = .type "tuple" /\ ox.data = .seq #[.int n.1 t1, .int n.2 t2] m
noncomputable def PairsAt (h : Heap) : List Value -> List (Int × Int) -> Prop
  | [], [] => True
  | v :: vs, n :: ns => PairAt h v n /\ PairsAt h vs ns
  | _, _ => False
end
section
variable {X : Cx}
noncomputable def PrsV (K : PySem.W.Frag) (H : Hp) : List V -> List (Int × Int) -> Prop
  | [], [] => True
  | v :: vs, n :: ns => (∃ t, v = .ref t /\ SqT K H t [.int n.1, .int n.2]) /\ PrsV K H vs ns
  | _, _ => False
end
end L2
namespace L2
open PySem PySem.Spec PyProof.Rows
section
variable {prog : Program} {w : World} {A : Around} {E : Value -> Shared -> Prop} {s : Shared}
noncomputable def TupAt (h : Heap) (k : Nat) (v : Value) (ns : List Int) : Prop := ∃ x ox us m, v = .ref x /\ h.get? x = some ox /\ ox.cls = .type "tuple" /\ ox.data = .seq us m /\ IntsAre us.toList ns /\ ns.length = k + 1
noncomputable def TupsAt (h : Heap) (k : Nat) : List Value -> List (List Int) -> Prop
  | [], [] => True
  | v :: vs, n :: ns => TupAt h k v n /\ TupsAt h k vs ns
  | _, _ => False
end
section
variable {X : Cx}
noncomputable def TpsV (K : PySem.W.Frag) (H : Hp) (k : Nat) : List V -> List (List Int) -> Prop
  | [], [] => True
  | v :: vs, n :: ns => (∃ t, v = .ref t /\ SqT K H t (n.map V.int) /\ n.length = k + 1) /\ TpsV K H k vs ns
  | _, _ => False
end
end L2
namespace HT
open PySem PySem.Spec PyProof.Rows
section
variable {prog : Program} {w : World} {A : Around} {E : Value -> Shared -> Prop} {s : Shared}
end
end HT
namespace L2
open PySem PySem.Spec PyProof.Rows
section
variable {X : Cx} {e st : Expr} {te : TE} {ts : TO} {pos p2 : Pos}
end
end L2
namespace L2
open PySem PySem.Spec PyProof.Rows
section
variable {κ : Type} [DecidableEq κ]
noncomputable def valV (kvs : List (κ × V)) (k : κ) : Option V := (kvs.find? fun kv => decide (kv.1 = k)).map (·.2)
noncomputable def putK (kvs : List (κ × V)) (k : κ) (v : V) : List (κ × V) :=
  if (kvs.any fun kv => decide (kv.1 = k)) = true then kvs.map (fun kv => if kv.1 = k then (kv.1, v) else kv) else kvs ++ [(k, v)]
noncomputable def dropK (kvs : List (κ × V)) (k : κ) : List (κ × V) := kvs.filter fun kv => decide (kv.1 ≠ k)
theorem valV_nil {k : κ} : valV ([] : List (κ × V)) k = none := rfl
theorem valV_pos {p : κ × V} {r : List (κ × V)} {k : κ} (e : p.1 = k) : valV (p :: r) k = some p.2 := by simp [valV, List.find?_cons, e]
theorem valV_neg {p : κ × V} {r : List (κ × V)} {k : κ} (e : ¬ p.1 = k) : valV (p :: r) k = valV r k := by simp [valV, List.find?_cons, e]
theorem RelO.isSome_eq {o : Option V} {u : Option Value} (r : RelO o u) : o.isSome = u.isSome := by
  cases o with
  | none => cases u with
    | none => rfl
    | some _ => exact (show False from r).elim
  | some _ => cases u with
    | none => exact (show False from r).elim
    | some _ => rfl
theorem KV.val {kvs : List (κ × V)} {vs : List (κ × Value)} (r : KV kvs vs) (k : κ) : RelO (valV kvs k) (valueAt vs k) := by
  unfold KV at r
  induction r with
  | nil => exact True.intro
  | @cons p q ps qs h t ih =>
    obtain ⟨h1, h2⟩ := h
    by_cases e : p.1 = k
    · have e' : q.1 = k := h1.symm.trans e
      have b : valueAt (q :: qs) k = some q.2 := by simp [valueAt, List.find?_cons, e']
      rw [valV_pos e, b]; exact h2
    · have e' : ¬ q.1 = k := fun z => e (h1.trans z)
      have b : valueAt (q :: qs) k = valueAt qs k := by simp [valueAt, List.find?_cons, e']
      rw [valV_neg e, b]; exact ih
end
theorem kV_is {P : Program} {w : World} {k : Key} {u : Value} (r : RelV (kV k) u) : (mixKind P w).is k u = true := by
  cases k with
  | inl i => obtain ⟨t, e⟩ := (show ∃ t, u = Value.int i t from r); subst e; exact mixKind_int P w i t
  | inr x => obtain ⟨t, e⟩ := (show ∃ t, u = Value.str x t from r); subst e; exact mixKind_str P w x t
noncomputable abbrev KT (H : Hp) : List (List Key × V) -> List (List Key × Addr × Value) -> Prop := Paired fun p q => p.1 = q.1 /\ H q.2.1 = some (.tup (p.1.map kV)) /\ RelV p.2 q.2.2
section
variable {P : Program} {w : World} {H : Hp} {h : Heap} {a : Addr}
end
noncomputable def DGet (H : Hp) (a : Addr) (y : V) (r : Option V) : Prop :=
  (∃ kvs k, Rd H a (.dK kvs) /\ y = kV k /\ r = valV kvs k) \/ ∃ kvs k b, Rd H a (.dT kvs) /\ y = .ref b /\ H b = some (.tup (k.map kV)) /\ r = valV kvs k
noncomputable def DPut (H : Hp) (a : Addr) (y v : V) (H' : Hp) : Prop :=
  (∃ kvs k, H a = some (.dK kvs) /\ y = kV k /\ kvs.length < sizeLine /\ H' = upd H a (.dK (putK kvs k v))) \/
  ∃ kvs k b, H a = some (.dT kvs) /\ y = .ref b /\ H b = some (.tup (k.map kV)) /\ kvs.length < sizeLine /\ H' = upd H a (.dT (putK kvs k v))
section
variable {X : Cx} {pins : List (Addr × Obj)} {σ : St} {H : Hp} {s : Shared} {a : Addr} {y v : V} {u r : Value} {o : Option V} {A : Around} {E : Value -> Shared -> Prop}
end
section
variable {X : Cx} {pins : List (Addr × Obj)} {σ : St} {H : Hp} {s : Shared} {a : Addr} {kvs : List (Key × V)} {k : Key} {u : Value} {A : Around} {E : Value -> Shared -> Prop}
end
noncomputable def NoSl (i : Expr) : Prop := ∀ ov iv, subscripted i false ov iv = operate [ov, iv] (getItem ov iv)
theorem subD_of {prog : Program} {w : World} {A : Around} {E : Value -> Shared -> Prop} {s : Shared} {env : Env} {value slice : Expr} {pos : Pos} {T id : String} {Q : Value -> Shared -> Prop}
    (hl : typeLookup (.type T) "__getitem__" = pure (some (.builtin id))) (hs : NoSl slice)
    (h : wpAny (model prog w) A (eval value env) (fun o s₁ => wpAny (model prog w) A (eval slice env) (fun i s₂ => s₂.TypeIs o T /\ wpAny (model prog w) A (getItem o i) Q E s₂) E s₁) E s) :
    wpAny (model prog w) A (eval (.Subscript value slice pos) env) Q E s := by
  refine Subscript_ (wpAny_mono h (fun o s₁ h₁ => wpAny_mono h₁ (fun i s₂ h₂ => ?_) fun _ _ x => x) fun _ _ x => x)
  obtain ⟨hT, h₂⟩ := h₂
  unfold subscriptTail
  refine wpAny_bind ?_
  rw [getitemInPython_of_ne hT.not_modules]
  refine wpAny_bind (wpAny_specialOf hT hl ?_)
  have fin : wpAny (model prog w) A (subscripted slice false o i) (fun r s₃ => wpAny (model prog w) A (letTemporaryGo value o r >>= fun _ => pure r) Q E s₃) E s₂ := by
    rw [hs o i]
    exact wpAny_operating (wpAny_mono h₂ (fun r s₃ h₃ => wpAny_bind (wpAny_letTemporaryGo (wpAny_pure h₃))) fun _ _ x => x)
  first
    | exact wpAny_pure (wpAny_bind fin)
    | exact wpAny_bind (wpAny_pure (wpAny_bind fin))
    | exact wpAny_bind fin
section
variable {X : Cx} {o i e value : Expr} {pos pos' tpos : Pos} {td ty tv : TE}
end
section
variable {X : Cx} {pos : Pos}
end
structure M1 (X : Cx) (o : Expr) (m : Str) (apos : Pos) (e : Expr) (cpos : Pos) : Prop where
  base : attributeBase o m X.env (eval o X.env) = eval o X.env
  few : ((backTo cpos (starEach [e] X.env)).all (fun x => !x.1) && (backToKw cpos (keywordEach [] X.env)).all (fun x => x.1.isSome)
    && decide (([e] : List Expr).length + ([] : List Keyword).length + (if ([] : List Keyword).isEmpty then 0 else 1) < 30)) = true
  line : (apos.endLine == cpos.line) = true
  trees : backTo cpos (starEach [e] X.env) = [(false, eval e X.env)]
structure M2 (X : Cx) (o : Expr) (m : Str) (apos : Pos) (e f : Expr) (cpos : Pos) : Prop where
  base : attributeBase o m X.env (eval o X.env) = eval o X.env
  few : ((backTo cpos (starEach [e, f] X.env)).all (fun x => !x.1) && (backToKw cpos (keywordEach [] X.env)).all (fun x => x.1.isSome)
    && decide (([e, f] : List Expr).length + ([] : List Keyword).length + (if ([] : List Keyword).isEmpty then 0 else 1) < 30)) = true
  line : (apos.endLine == cpos.line) = true
  trees : backTo cpos (starEach [e, f] X.env) = [(false, eval e X.env), (false, eval f X.env)]
section
variable {X : Cx} {pins : List (Addr × Obj)} {σ : St} {H : Hp} {s : Shared} {a : Addr} {y d : V} {u r : Value} {o : Option V} {A : Around} {E : Value -> Shared -> Prop}
end
section
variable {X : Cx} {o e f : Expr} {apos cpos : Pos} {td ty tx : TE}
end
section
variable {X : Cx} {pins : List (Addr × Obj)} {σ : St} {H : Hp} {s : Shared} {a : Addr} {kvs : List (Key × V)} {A : Around} {E : Value -> Shared -> Prop}
end
section
variable {X : Cx} {pins : List (Addr × Obj)} {σ : St} {H : Hp} {s : Shared} {a : Addr} {y : V} {u : Value} {A : Around} {E : Value -> Shared -> Prop}
end
end L2
namespace L2
open PySem PySem.Spec PyProof.Rows
section
variable {prog : Program} {w : World} {A : Around} {E : Value -> Shared -> Prop} {s : Shared}
end
section
variable {X : Cx}
end
end L2
set_option maxHeartbeats 1000000
namespace L2
open PySem PySem.Spec PyProof.Rows
section
variable {prog : Program} {w : World} {KK : Type} [DecidableEq KK] {knd : KeyKind prog w KK}
end
section
variable {X : Cx}
end
end L2
set_option maxHeartbeats 1000000
namespace L2.F2
open PySem PySem.Spec PyProof.Rows
end L2.F2
namespace L2
open PySem PySem.Spec PyProof.Rows
section
variable {prog : Program} {w : World} {A : Around} {E : Value -> Shared -> Prop} {s : Shared}
end
section
variable {X : Cx}
end
end L2
set_option maxHeartbeats 1000000
namespace L2
open PySem PySem.Spec PyProof.Rows
section
variable {prog : Program} {w : World} {A : Around} {E : Value -> Shared -> Prop} {s : Shared}
end
section
variable {X : Cx}
end
end L2
set_option maxHeartbeats 2000000
namespace L2
open PySem PySem.Spec PyProof.Rows
section
variable {prog : Program} {w : World} {A : Around} {E : Value -> Shared -> Prop} {s : Shared}
end
section
variable {X : Cx}
end
noncomputable def dd {α : Type} [DecidableEq α] : List α -> List α -> List α
  | σ, [] => σ
  | σ, x :: l => dd (if x ∈ σ then σ else σ ++ [x]) l
section
variable {prog : Program} {w : World} {A : Around} {E : Value -> Shared -> Prop} {s : Shared}
noncomputable abbrev SetT (prog : Program) (w : World) (h : Heap) (a : Addr) (l : List Str) : Prop := h.SetOf (strKind prog w) a (fun k => decide (k ∈ dd [] l)) (dd [] l).length
end
section
variable {prog : Program} {w : World} {A : Around} {E : Value -> Shared -> Prop} {s : Shared}
end
section
variable {X : Cx}
end
end L2
namespace L2
open PySem PySem.Spec PyProof.Rows
section
variable {prog : Program} {w : World} {A : Around} {E : Value -> Shared -> Prop} {s : Shared}
noncomputable def TuxAt (h : Heap) (k : Nat) (v : Value) (ns : List Int) : Prop := ∃ x ox us m is z t, v = .ref x /\ h.get? x = some ox /\ ox.cls = .type "tuple" /\ ox.data = .seq us m /\ us.toList = is ++ [.str z t] /\ IntsAre is ns /\ ns.length = k + 1
noncomputable def TuxsAt (h : Heap) (k : Nat) : List Value -> List (List Int) -> Prop
  | [], [] => True
  | v :: vs, n :: ns => TuxAt h k v n /\ TuxsAt h k vs ns
  | _, _ => False
end
section
variable {X : Cx}
noncomputable def TxsV (K : PySem.W.Frag) (H : Hp) (k : Nat) : List V -> List (List Int) -> Prop
  | [], [] => True
  | v :: vs, n :: ns => (∃ t z, v = .ref t /\ SqT K H t (n.map V.int ++ [.str z]) /\ n.length = k + 1) /\ TxsV K H k vs ns
  | _, _ => False
end
section
variable {X : Cx}
end
end L2
namespace L2
open PySem PySem.Spec PyProof.Rows
section
variable {X : Cx} {st : Stmt} {rest : List Stmt} {t u : TS}
end
end L2
namespace L2
open PySem PySem.Spec PyProof.Rows
section
variable {X : Cx}
theorem sl_tupK (K : PySem.W.Frag) (h : X.K = K) : SlR X (rSlT K) := by subst h; exact sl_tup
end
end L2
namespace L2
open PySem PySem.Spec PyProof.Rows
section
variable {X : Cx}
end
section
variable {prog : Program} {w : World} {A : Around} {E : Value -> Shared -> Prop} {s : Shared}
structure ZA (z TI TO i1 i2 : Addr) (f1 f2 : List Addr) : Prop where
  m1 : i1 ∈ f1
  m2 : i2 ∈ f2
  z1 : z ∉ f1
  z2 : z ∉ f2
  o1 : TO ∉ f1
  o2 : TO ∉ f2
  c1 : i1 ∉ f2
  c2 : i2 ∉ f1
  tz : TI ≠ z
  tt : TI ≠ TO
  t1 : TI ≠ i1
  t2 : TI ≠ i2
  oz : TO ≠ z
theorem nm {a b : Addr} {f : List Addr} (h : a ∈ f) (n : b ∉ f) : a ≠ b := fun z => n (z ▸ h)
section
variable {z TI TO i1 i2 : Addr} {f1 f2 : List Addr} {n1 n2 i : Nat} {P1 P2 : Nat -> Value -> Prop} {S1 S2 : Nat -> Heap -> Prop} {a b : Value}
theorem zipD_item {Q : Value -> Shared -> Prop} (D1 : Draws prog w A i1 f1 n1 P1 S1) (D2 : Draws prog w A i2 f2 n2 P2 S2) (Z : ZA z TI TO i1 i2 f1 f2)
    (hz : IsZip s.heap z TI TO .none) (hTI : IsPair s.heap TI (.ref i1) (.ref i2)) (hTO : IsPair s.heap TO a b) (h1 : S1 i s.heap) (h2 : S2 i s.heap) (l1 : i < n1) (l2 : i < n2)
    (hQ : ∀ x y h' tk, P1 i x -> P2 i y -> IsZip h' z TI TO (rawInt s.heap.objs.size) -> IsPair h' TO x y -> S1 (i + 1) h' -> S2 (i + 1) h' -> IsPair h' s.heap.objs.size x y -> h'.objs.size = s.heap.objs.size + 1 ->
      (∀ c o, c ≠ z -> c ≠ TO -> c ≠ i1 -> c ≠ i2 -> s.heap.get? c = some o -> h'.get? c = some o) -> Q (.ref s.heap.objs.size) { s with heap := h', toks := tk }) :
    wpAny (model prog w) A (Builtin.«zip.__next__» ⟨[.ref z], []⟩) (fun fin s' => ∃ v, fin = .done (.ret v) /\ Q v s') E s := by
  obtain ⟨hp, g, d, tk0, os⟩ := s
  have i1z := nm Z.m1 Z.z1
  have i2z := nm Z.m2 Z.z2
  have i1o := nm Z.m1 Z.o1
  have i2o := nm Z.m2 Z.o2
  have i21 := nm Z.m2 Z.c1
  refine wpAny_bind (m := field (.ref z) 2) (wpAny_field hz rfl (x := .bool false) rfl ?_)
  refine wpAny_bind (m := field (.ref z) 3) (wpAny_field hz rfl (x := .ref TI) rfl ?_)
  refine wpAny_bind (m := seqItems? (.ref TI)) (wpAny_seqItems hTI rfl ?_)
  refine wpAny_bind (m := Builtin.SmallTypes.ownedTupleIsFree (.ref z)) ?_
  (unfold Builtin.SmallTypes.ownedTupleIsFree; refine wpAny_bind (m := field (.ref z) 0) (wpAny_field hz rfl (x := .none) rfl (wpAny_pure ?_)))
  simp only [if_true]
  refine wpAny_bind (wpAny_rule ?_); refine wpAny_bind (m := field (.ref z) 4) (wpAny_field hz rfl (x := .ref TO) rfl ?_)
  refine wpAny_bind (wpAny_setField_rec hz (by simp) fun k1 zk1 sk1 => ?_)
  replace zk1 : IsZip k1 z TI TO .ellipsis := zk1
  replace sk1 : Heap.SameBut z hp k1 := sk1
  refine wpAny_bind ?_; simp only [List.zipIdx_cons, List.zipIdx_nil, List.forIn_cons, List.forIn_nil]
  refine wpAny_bind (wpAny_bind (wpAny_onRaise ?_)); refine wpAny_bind (m := Builtin.SmallTypes.nextOf (.ref i1)) ?_
  refine D1.item i _ _ _ l1 (D1.frame _ _ _ h1 fun c hc o e => sk1.extBut _ _ (nm hc Z.z1) e) fun x k2 tk2 px st2 sk2 => wpAny_pure ?_
  replace sk2 : Heap.SameBut i1 k1 k2 := sk2
  have to2 : IsPair k2 TO a b := sk2.extBut _ _ (Ne.symm i1o) (sk1.extBut _ _ Z.oz hTO)
  refine wpAny_bind (m := seqItems? (.ref TO)) (wpAny_seqItems to2 rfl ?_)
  refine wpAny_bind (wpAny_updateSeq_pair to2 fun k3 to3 sk3 => ?_)
  replace to3 : IsPair k3 TO x b := to3
  replace sk3 : Heap.SameBut TO k2 k3 := sk3
  refine wpAny_bind (wpAny_letGo (wpAny_pure ?_)); refine wpAny_bind (wpAny_bind (wpAny_onRaise ?_))
  refine wpAny_bind (m := Builtin.SmallTypes.nextOf (.ref i2)) ?_
  refine D2.item i _ _ _ l2 (D2.frame _ _ _ h2 fun c hc o e => sk3.extBut _ _ (nm hc Z.o2) (sk2.extBut _ _ (nm hc Z.c1) (sk1.extBut _ _ (nm hc Z.z2) e))) fun y k4 tk4 py st4 sk4 => wpAny_pure ?_
  replace sk4 : Heap.SameBut i2 k3 k4 := sk4
  have to4 : IsPair k4 TO x b := sk4.extBut _ _ (Ne.symm i2o) to3
  refine wpAny_bind (m := seqItems? (.ref TO)) (wpAny_seqItems to4 rfl ?_)
  refine wpAny_bind (wpAny_updateSeq_pair to4 fun k5 to5 sk5 => ?_)
  replace to5 : IsPair k5 TO x y := to5
  replace sk5 : Heap.SameBut TO k4 k5 := sk5
  refine wpAny_bind (wpAny_letGo (wpAny_pure (wpAny_pure ?_))); refine wpAny_bind (m := seqItems? (.ref TO)) (wpAny_seqItems to5 rfl ?_)
  refine wpAny_bind (wpAny_newTuple ?_)
  have sz : k5.objs.size = hp.objs.size := by rw [sk5.1, sk4.1, sk3.1, sk2.1, sk1.1]
  have z5 : IsZip k5 z TI TO .ellipsis := sk5.extBut _ _ (Ne.symm Z.oz) (sk4.extBut _ _ (Ne.symm i2z) (sk3.extBut _ _ (Ne.symm Z.oz) (sk2.extBut _ _ (Ne.symm i1z) zk1)))
  have kp : ∀ c o, c ≠ z -> c ≠ TO -> c ≠ i1 -> c ≠ i2 -> hp.get? c = some o -> k5.get? c = some o := fun c o c1 c2 c3 c4 e => sk5.extBut _ _ c2 (sk4.extBut _ _ c4 (sk3.extBut _ _ c2 (sk2.extBut _ _ c3 (sk1.extBut _ _ c1 e))))
  have s15 : S1 (i + 1) k5 := D1.frame _ _ _ st2 fun c hc o e => sk5.extBut _ _ (nm hc Z.o1) (sk4.extBut _ _ (nm hc Z.c2) (sk3.extBut _ _ (nm hc Z.o1) e))
  have s25 : S2 (i + 1) k5 := D2.frame _ _ _ st4 fun c hc o e => sk5.extBut _ _ (nm hc Z.o2) e
  have zl : z < k5.objs.size := Heap.lt_size z5
  refine wpAny_bind (m := Builtin.SmallTypes.ownedTupleHandOut (.ref z) (.ref k5.objs.size)) ?_
  have z6 : IsZip (k5.push { cls := .type "tuple", data := .seq #[x, y] }) z TI TO .ellipsis := Heap.get?_push_of_some _ z5
  (unfold Builtin.SmallTypes.ownedTupleHandOut; refine wpAny_bind (wpAny_setField_rec z6 (by simp) fun k7 z7 s7 => ?_))
  replace z7 : IsZip k7 z TI TO (rawInt k5.objs.size) := z7
  refine wpAny_setField_rec z7 (by simp) fun k8 z8 s8 => ?_
  replace z8 : IsZip k8 z TI TO (rawInt k5.objs.size) := z8
  have up : ∀ c o, c ≠ z -> k5.get? c = some o -> k8.get? c = some o := fun c o c1 e => s8.extBut _ _ c1 (s7.extBut _ _ c1 (Heap.get?_push_of_some _ e))
  have t8 : IsPair k8 k5.objs.size x y := s8.extBut _ _ (Nat.ne_of_gt zl) (s7.extBut _ _ (Nat.ne_of_gt zl) (Heap.get?_push_size _ rfl))
  have e8 : k8.objs.size = k5.objs.size + 1 := by rw [s8.1, s7.1, Heap.size_push]
  rw [sz] at z8 t8 e8
  refine wpAny_pure ⟨_, rfl, ?_⟩
  show Q (.ref k5.objs.size) _
  rw [sz]
  exact hQ x y k8 tk4 px py z8 (up _ _ Z.oz to5) (D1.frame _ _ _ s15 fun c hc o e => up c o (nm hc Z.z1) e) (D2.frame _ _ _ s25 fun c hc o e => up c o (nm hc Z.z2) e) t8 e8 fun c o c1 c2 c3 c4 e => up c o c1 (kp c o c1 c2 c3 c4 e)
theorem zipD_end {Q : Fin -> Shared -> Prop} (D1 : Draws prog w A i1 f1 n1 P1 S1) (Z : ZA z TI TO i1 i2 f1 f2)
    (hz : IsZip s.heap z TI TO .none) (hTI : IsPair s.heap TI (.ref i1) (.ref i2)) (hTO : IsPair s.heap TO a b) (h1 : S1 n1 s.heap)
    (hE : ∀ h' e, (∀ c o, c ≠ z -> c ≠ TO -> c ≠ i1 -> c ≠ i2 -> s.heap.get? c = some o -> h'.get? c = some o) -> (∃ o, h'.get? e = some o /\ o.cls = .type "StopIteration") -> E (.ref e) { s with heap := h' }) :
    wpAny (model prog w) A (Builtin.«zip.__next__» ⟨[.ref z], []⟩) Q E s := by
  obtain ⟨hp, g, d, tk0, os⟩ := s
  have i1z := nm Z.m1 Z.z1
  refine wpAny_bind (m := field (.ref z) 2) (wpAny_field hz rfl (x := .bool false) rfl ?_)
  refine wpAny_bind (m := field (.ref z) 3) (wpAny_field hz rfl (x := .ref TI) rfl ?_)
  refine wpAny_bind (m := seqItems? (.ref TI)) (wpAny_seqItems hTI rfl ?_)
  refine wpAny_bind (m := Builtin.SmallTypes.ownedTupleIsFree (.ref z)) ?_
  (unfold Builtin.SmallTypes.ownedTupleIsFree; refine wpAny_bind (m := field (.ref z) 0) (wpAny_field hz rfl (x := .none) rfl (wpAny_pure ?_)))
  simp only [if_true]
  refine wpAny_bind (wpAny_rule ?_); refine wpAny_bind (m := field (.ref z) 4) (wpAny_field hz rfl (x := .ref TO) rfl ?_)
  refine wpAny_bind (wpAny_setField_rec hz (by simp) fun k1 zk1 sk1 => ?_)
  replace zk1 : IsZip k1 z TI TO .ellipsis := zk1
  replace sk1 : Heap.SameBut z hp k1 := sk1
  refine wpAny_bind ?_; simp only [List.zipIdx_cons, List.zipIdx_nil, List.forIn_cons, List.forIn_nil]
  refine wpAny_bind (wpAny_bind (wpAny_onRaise ?_)); refine wpAny_bind (m := Builtin.SmallTypes.nextOf (.ref i1)) ?_
  refine D1.done _ _ _ (D1.frame _ _ _ h1 fun c hc o e => sk1.extBut _ _ (nm hc Z.z1) e) fun k2 e sk2 he => ?_
  obtain ⟨oe, hoe, hce⟩ := he
  have z2 : IsZip k2 z TI TO .ellipsis := sk2 _ _ (Ne.symm i1z) zk1
  have ez : e ≠ z := fun x => by subst x; rw [z2] at hoe; cases hoe; simp at hce
  refine wpAny_setField_rec z2 (by simp) fun k3 _ sk3 => hE k3 e (fun c o c1 _ c3 _ x => sk3.extBut _ _ c1 (sk2 _ _ c3 (sk1.extBut _ _ c1 x))) ⟨oe, sk3.extBut _ _ ez hoe, hce⟩
theorem nextZ_item {Q : Option Value -> Shared -> Prop} (D1 : Draws prog w A.in1 i1 f1 n1 P1 S1) (D2 : Draws prog w A.in1 i2 f2 n2 P2 S2) (Z : ZA z TI TO i1 i2 f1 f2)
    (hz : IsZip s.heap z TI TO .none) (hTI : IsPair s.heap TI (.ref i1) (.ref i2)) (hTO : IsPair s.heap TO a b) (h1 : S1 i s.heap) (h2 : S2 i s.heap) (l1 : i < n1) (l2 : i < n2)
    (hQ : ∀ x y h' tk, P1 i x -> P2 i y -> IsZip h' z TI TO (rawInt s.heap.objs.size) -> IsPair h' TO x y -> S1 (i + 1) h' -> S2 (i + 1) h' -> IsPair h' s.heap.objs.size x y -> h'.objs.size = s.heap.objs.size + 1 ->
      (∀ c o, c ≠ z -> c ≠ TO -> c ≠ i1 -> c ≠ i2 -> s.heap.get? c = some o -> h'.get? c = some o) -> Q (some (.ref s.heap.objs.size)) { s with heap := h', toks := tk }) :
    wpAny (model prog w) A (pyNext (.ref z)) Q E s := by
  have hT : s.TypeIs (.ref z) "zip" := ⟨_, hz, rfl⟩
  unfold pyNext
  exact wpAny_bind (wpAny_attempt (wpAny_callSpecial?_slot (name := Str.ofString "__next__") hT F.slot_zip_next (wpAny_call_entry F.slot_zip_next hT F.entry_zip_next
      (zipD_item D1 D2 Z hz hTI hTO h1 h2 l1 l2 fun x y h' tk p1 p2 a1 a2 a3 a4 a5 a6 a7 => wpAny_pure (hQ x y h' tk p1 p2 a1 a2 a3 a4 a5 a6 a7)) (F.args_zip_next_1 _))))
theorem nextZ_end {Q : Option Value -> Shared -> Prop} (D1 : Draws prog w A.in1 i1 f1 n1 P1 S1) (Z : ZA z TI TO i1 i2 f1 f2)
    (hz : IsZip s.heap z TI TO .none) (hTI : IsPair s.heap TI (.ref i1) (.ref i2)) (hTO : IsPair s.heap TO a b) (h1 : S1 n1 s.heap)
    (hQ : ∀ h', (∀ c o, c ≠ z -> c ≠ TO -> c ≠ i1 -> c ≠ i2 -> s.heap.get? c = some o -> h'.get? c = some o) -> Q none { s with heap := h' }) : wpAny (model prog w) A (pyNext (.ref z)) Q E s := by
  have hT : s.TypeIs (.ref z) "zip" := ⟨_, hz, rfl⟩
  unfold pyNext
  refine wpAny_bind (wpAny_attempt (wpAny_callSpecial?_slot (name := Str.ofString "__next__") hT F.slot_zip_next (wpAny_call_entry F.slot_zip_next hT F.entry_zip_next (zipD_end D1 Z hz hTI hTO h1 fun h' e hk he => ?_) (F.args_zip_next_1 _))))
  obtain ⟨o, ho, hc⟩ := he
  refine wpAny_bind (wpAny_isInstance (T := "StopIteration") (b := true) ⟨o, ho, hc⟩ isSubtype_stop (wpAny_pure (hQ _ hk)))
end
structure ZS (P : Program) (w : World) (K : PySem.W.Frag) (a it : Addr) (Sq : Hp -> List V -> Prop) (IT : Nat -> Heap -> Prop) : Prop where
  obj : ∀ i h, IT i h -> ∃ o, h.get? it = some o /\ ∀ v, o.data ≠ .cell v
  keep : ∀ i h h', IT i h -> (∀ o, h.get? it = some o -> h'.get? it = some o) -> IT i h'
  inj : ∀ (X : Cx), X.K = K -> ∀ (pins : List (Addr × Obj)) (s : Shared) (σ : St) (H : Hp), Inv X pins σ H s -> ∀ xs ys, Sq H xs -> Sq H ys -> xs = ys
  draws : ∀ (X : Cx), X.prog = P -> X.w = w -> X.K = K -> X.calm = true -> ∀ (pins : List (Addr × Obj)) (s : Shared) (σ : St) (H : Hp), Inv X pins σ H s -> ∀ xs, Sq H xs -> a ≠ it ->
    ∃ (its : List Value) (SS : Nat -> Heap -> Prop), Vals xs its /\ Draws P w X.A.in1 it [it, a] its.length (fun i v => its[i]? = some v) SS /\ (∀ i, IT i s.heap -> SS i s.heap) /\ ∀ i h, SS i h -> IT i h
theorem zs_tup {P : Program} {w : World} {K : PySem.W.Frag} (a it : Addr) : ZS P w K a it (fun H xs => SqT K H a xs) (fun i h => h.IsTupleIter it a i) where
  obj := fun i h st => by
    obtain ⟨o, ho, hc, hd⟩ := st
    exact ⟨o, ho, fun v z => by rw [hd] at z; cases z⟩
  keep := fun i h h' st k => by
    obtain ⟨o, ho, r⟩ := st
    exact ⟨o, k o ho, r⟩
  inj := fun X hK pins s σ H I xs ys h1 h2 => by subst hK; exact I.tuple_inj h1 h2
  draws := fun X hP hw hK hc pins s σ H I xs hq ne => by
    subst hP hw hK
    obtain ⟨its, rv, p, _⟩ := I.tuple hq
    have D := draws_tuple (prog := X.prog) (w := X.w) (A := X.A.in1) (I.ok.hd hc) it a ne its.toArray
    refine ⟨its, fun i h => h.IsTupleIter it a i /\ h.IsTuple a its.toArray, rv, ?_, fun i h => ⟨h, p⟩, fun i h z => z.1⟩
    have e : its.toArray.size = its.length := List.size_toArray
    rw [<- e]
    refine ⟨D.live, D.frame, fun i s Q E hi st q => D.item i s Q E hi st fun x h' tk hx => q x h' tk (by simpa using hx), D.done⟩
noncomputable def ItZ (Sq1 Sq2 : Hp -> List V -> Prop) : It := ⟨fun i H => ∃ xs ys x y, Sq1 H xs /\ Sq2 H ys /\ xs[i]? = some x /\ ys[i]? = some y,
  fun i H x H' => ∃ T u v, (∀ xs, Sq1 H xs -> xs[i]? = some u) /\ (∀ ys, Sq2 H ys -> ys[i]? = some v) /\ x = .ref T /\ H T = none /\ H' = upd H T (.tup [u, v]),
  fun i H => ∃ xs, Sq1 H xs /\ (∃ ys, Sq2 H ys) /\ xs.length = i⟩
theorem turn_zip {P : Program} {w : World} {K : PySem.W.Frag} {elts : List Expr} {k : Nat} {pos : Pos} {a1 a2 z TI TO i1 i2 : Addr} {Sq1 Sq2 : Hp -> List V -> Prop} {I1 I2 : Nat -> Heap -> Prop}
    (W1 : ZS P w K a1 i1 Sq1 I1) (W2 : ZS P w K a2 i2 Sq2 I2) (Z : ZA z TI TO i1 i2 [i1, a1] [i2, a2]) (n1 : a1 ≠ i1) (n2 : a2 ≠ i2) :
    Turn P w K (.Tuple elts k pos) (ItZ Sq1 Sq2) [z, TI, TO, i1, i2] z (fun i h => IsZip h z TI TO .none /\ IsPair h TI (.ref i1) (.ref i2) /\ (∃ a b, IsPair h TO a b) /\ I1 i h /\ I2 i h) where
  mem := by simp
  obj := fun i h st b hb => by
    obtain ⟨q1, q2, ⟨a, b', q3⟩, q4, q5⟩ := st
    simp only [List.mem_cons, List.not_mem_nil, or_false] at hb
    rcases hb with g | g | g | g | g <;> rw [g]
    · exact ⟨_, q1, fun v z => by cases z⟩
    · exact ⟨_, q2, fun v z => by cases z⟩
    · exact ⟨_, q3, fun v z => by cases z⟩
    · exact W1.obj i h q4
    · exact W2.obj i h q5
  keep := fun i h h' st kp => by
    obtain ⟨q1, q2, ⟨a, b', q3⟩, q4, q5⟩ := st
    exact ⟨kp z (by simp) _ q1, kp TI (by simp) _ q2, ⟨a, b', kp TO (by simp) _ q3⟩, W1.keep _ _ _ q4 fun o e => kp i1 (by simp) o e, W2.keep _ _ _ q5 fun o e => kp i2 (by simp) o e⟩
  item := by
    intro X hP hw hK hc i pins s σ H E I hf st hg
    obtain ⟨q1, q2, ⟨a, b', q3⟩, q4, q5⟩ := st
    obtain ⟨xs, ys, x, y, hx, hy, gx, gy⟩ := hg
    obtain ⟨xi, SX, rx, DX, ux, vx⟩ := W1.draws X hP hw hK hc pins s σ H I xs hx n1
    obtain ⟨yi, SY, ry, DY, uy, vy⟩ := W2.draws X hP hw hK hc pins s σ H I ys hy n2
    obtain ⟨u0, hu, ru⟩ := rx.get gx
    obtain ⟨w0, hw0, rw0⟩ := ry.get gy
    have ij1 := W1.inj X hK pins s σ H I
    have ij2 := W2.inj X hK pins s σ H I
    subst hP hw hK
    refine nextZ_item DX DY Z q1 q2 q3 (ux i q4) (uy i q5) (List.getElem?_eq_some_iff.mp hu).1 (List.getElem?_eq_some_iff.mp hw0).1 fun x2 y2 h' tk p1 p2 e1 e2 e3 e4 e5 e6 e7 => ⟨_, rfl, ?_⟩
    have ex : x2 = u0 := Option.some.inj (p1.symm.trans hu)
    have ey : y2 = w0 := Option.some.inj (p2.symm.trans hw0)
    subst ex
    subst ey
    have lt : ∀ {c o}, s.heap.get? c = some o -> s.heap.objs.size ≠ c := fun e => Nat.ne_of_gt (Heap.lt_size e)
    obtain ⟨o1, g1⟩ := DX.live _ _ (ux i q4)
    obtain ⟨o2, g2⟩ := DY.live _ _ (uy i q5)
    have hTw : s.heap.objs.size ∉ [z, TI, TO, i1, i2] := by
      simp only [List.mem_cons, List.not_mem_nil, or_false, not_or]
      exact ⟨lt q1, lt q2, lt q3, lt g1, lt g2⟩
    refine wpAny_letOwnedTupleGo_zip e1 fun h2 z2 sb => ?_
    have kk : ∀ b o, b ∉ [z, TI, TO, i1, i2] -> s.heap.get? b = some o -> h2.get? b = some o := fun b o hb e => by
      simp only [List.mem_cons, List.not_mem_nil, or_false, not_or] at hb
      exact sb.extBut _ _ hb.1 (e7 b o hb.1 hb.2.2.1 hb.2.2.2.1 hb.2.2.2.2 e)
    have hTup2 : h2.IsTuple s.heap.objs.size #[x2, y2] := ⟨_, sb.extBut _ _ (lt q1) e5, rfl, _, rfl⟩
    refine ⟨.ref s.heap.objs.size, upd H s.heap.objs.size (.tup [x, y]), ?_, rfl, ⟨s.heap.objs.size, x, y, fun zs hzs => by rw [ij1 zs xs hzs hx]; exact gx, fun zs hzs => by rw [ij2 zs ys hzs hy]; exact gy, rfl, I.hok.fresh (Nat.le_refl _), rfl⟩,
      ⟨z2, sb.extBut _ _ Z.tz (e7 _ _ Z.tz Z.tt Z.t1 Z.t2 q2), ⟨_, _, sb.extBut _ _ Z.oz e2⟩, vx _ _ (DX.frame _ _ _ e3 fun c hc o e => sb.extBut _ _ (nm hc Z.z1) e), vy _ _ (DY.frame _ _ _ e4 fun c hc o e => sb.extBut _ _ (nm hc Z.z2) e)⟩, fun b hb => ?_⟩
    · refine I.turnLaid (t' := tk) (h' := h2) kk hf (Nat.le_refl _) ?_
      exact ⟨by show 2 <= sizeLine; decide, [x2, y2], .cons ru (.cons rw0 .nil), hTup2⟩
    · rw [upd_ne (fun q : b = s.heap.objs.size => hTw (q ▸ hb))]; exact (hf b hb).1
  done := by
    intro X hP hw hK hc i pins s σ H E I hf st hg
    obtain ⟨q1, q2, ⟨a, b', q3⟩, q4, q5⟩ := st
    obtain ⟨xs, hx, ⟨ys, hy⟩, el⟩ := hg
    obtain ⟨xi, SX, rx, DX, ux, vx⟩ := W1.draws X hP hw hK hc pins s σ H I xs hx n1
    have hl := rx.length
    subst hP hw hK
    have e0 : i = xi.length := by omega
    subst e0
    refine nextZ_end DX Z q1 q2 q3 (ux _ q4) fun h' hk => ⟨rfl, I.turnedL (t' := s.toks) (ch := [z, TI, TO, i1, i2]) (fun b o hb e => ?_) hf⟩
    simp only [List.mem_cons, List.not_mem_nil, or_false, not_or] at hb
    exact hk b o hb.1 hb.2.2.1 hb.2.2.2.1 hb.2.2.2.2 e
  self := fun _ _ s _ _ st h => wpAny_pyIter_zip st.1 h
noncomputable abbrev zmA (h : Heap) (c : String) (l : Addr) : Heap := h.push { cls := .type c, data := .fields #[.ref l, .int 0 0] }
noncomputable abbrev zmB (h : Heap) (c d : String) (l m : Addr) : Heap := zmA (zmA h c l) d m
noncomputable abbrev zmC (h : Heap) (c d : String) (l m : Addr) : Heap := (zmB h c d l m).push { cls := .type "tuple", data := .seq #[.ref h.objs.size, .ref (zmA h c l).objs.size] }
noncomputable abbrev zmD (h : Heap) (c d : String) (l m : Addr) : Heap := (zmC h c d l m).push { cls := .type "tuple", data := .seq #[.none, .none] }
noncomputable abbrev zmE (h : Heap) (c d : String) (l m : Addr) : Heap := (zmD h c d l m).push { cls := .type "zip", data := .fields #[.none, .bool false, .bool false, .ref (zmB h c d l m).objs.size, .ref (zmC h c d l m).objs.size] }
theorem meets_zipTT (l m : Addr) (xs ys : Array Value) : Meets (Builtin.«zip.__new__» ⟨[.type "zip", .ref l, .ref m], []⟩) (fun _ R s => s.heap.IsTuple l xs /\ s.heap.IsTuple m ys /\ R (.ok (.ret (.ref (zmD s.heap "tuple_iterator" "tuple_iterator" l m).objs.size))) { s with heap := zmE s.heap "tuple_iterator" "tuple_iterator" l m }) :=
  .of_wp fun prog w A R s h => by
    obtain ⟨hp, g, d, tk, os⟩ := s; obtain ⟨q1, q2, h⟩ := h; have hsub := sub_zip
    have k1 : Heap.IsTuple (Shared.heap ⟨hp, g, d, tk, os⟩) l xs := q1
    have k2 : Heap.IsTuple (Shared.heap ⟨hp.push { cls := .type "tuple_iterator", data := .fields #[.ref l, .int 0 0] }, g, d, tk, os⟩) m ys := by
      obtain ⟨o, e, r⟩ := q2
      exact ⟨o, Heap.get?_push_of_some _ e, r⟩
    wp_walk using wpAny_pyIter_tuple k1, wpAny_pyIter_tuple k2
    exact ⟨_, rfl, h⟩
noncomputable def ZMk (c d : String) (P1 P2 : Heap -> Prop) (l m : Addr) : Prop := ∀ (prog : Program) (w : World) (A : Around) (E : Value -> Shared -> Prop) (s : Shared) (Q : Value -> Shared -> Prop), P1 s.heap -> P2 s.heap ->
    (∀ h', IsZip h' (s.heap.objs.size + 4) (s.heap.objs.size + 2) (s.heap.objs.size + 3) .none -> IsPair h' (s.heap.objs.size + 2) (.ref s.heap.objs.size) (.ref (s.heap.objs.size + 1)) ->
      IsPair h' (s.heap.objs.size + 3) .none .none -> h'.get? s.heap.objs.size = some { cls := .type c, data := .fields #[.ref l, .int 0 0] } -> h'.get? (s.heap.objs.size + 1) = some { cls := .type d, data := .fields #[.ref m, .int 0 0] } ->
      (∀ b o, s.heap.get? b = some o -> h'.get? b = some o) -> Q (.ref (s.heap.objs.size + 4)) { s with heap := h' }) ->
    wpAny (model prog w) A (call (.type "zip") [.ref l, .ref m]) Q E s
theorem zmk_of {c d : String} {P1 P2 : Heap -> Prop} {l m : Addr} (M : Meets (Builtin.«zip.__new__» ⟨[.type "zip", .ref l, .ref m], []⟩) (fun _ R s => P1 s.heap /\ P2 s.heap /\ R (.ok (.ret (.ref (zmD s.heap c d l m).objs.size))) { s with heap := zmE s.heap c d l m })) : ZMk c d P1 P2 l m := by
  intro prog w A E s Q p1 p2 h
  refine callType_new F.called_zip (by decide) (F.typeCall_zip_2 _ _) (F.newCall_zip_2 _ _) (fun ob => F.args_object_init_3 ob _ _) F.entry_zip_new M ⟨p1, p2, ?_⟩
  have e1 : (zmA s.heap c l).objs.size = s.heap.objs.size + 1 := Heap.size_push ..
  have e2 : (zmB s.heap c d l m).objs.size = s.heap.objs.size + 2 := by rw [Heap.size_push, e1]
  have e3 : (zmC s.heap c d l m).objs.size = s.heap.objs.size + 3 := by rw [Heap.size_push, e2]
  have e4 : (zmD s.heap c d l m).objs.size = s.heap.objs.size + 4 := by rw [Heap.size_push, e3]
  have g5 : (zmE s.heap c d l m).get? (zmD s.heap c d l m).objs.size = some _ := Heap.get?_push_size _ rfl
  have g4 : (zmE s.heap c d l m).get? (zmC s.heap c d l m).objs.size = some _ := Heap.get?_push_of_some _ (Heap.get?_push_size _ rfl)
  have g3 : (zmE s.heap c d l m).get? (zmB s.heap c d l m).objs.size = some _ := Heap.get?_push_of_some _ (Heap.get?_push_of_some _ (Heap.get?_push_size _ rfl))
  have g2 : (zmE s.heap c d l m).get? (zmA s.heap c l).objs.size = some _ := Heap.get?_push_of_some _ (Heap.get?_push_of_some _ (Heap.get?_push_of_some _ (Heap.get?_push_size _ rfl)))
  have g1 : (zmE s.heap c d l m).get? s.heap.objs.size = some _ := Heap.get?_push_of_some _ (Heap.get?_push_of_some _ (Heap.get?_push_of_some _ (Heap.get?_push_of_some _ (Heap.get?_push_size _ rfl))))
  show _ /\ _
  rw [e2, e3, e4] at g5
  rw [e1, e2] at g3
  rw [e3] at g4
  rw [e1] at g2
  rw [e4]
  exact ⟨⟨_, g5, rfl⟩, h _ g5 g3 g4 g1 g2 fun b o x => Heap.get?_push_of_some _ (Heap.get?_push_of_some _ (Heap.get?_push_of_some _ (Heap.get?_push_of_some _ (Heap.get?_push_of_some _ x))))⟩
theorem nin {a b c : Nat} (h1 : a ≠ b) (h2 : a ≠ c) : (a : Addr) ∉ ([b, c] : List Addr) := fun h => by
  rcases List.mem_cons.mp h with e | e
  · exact h1 e
  · exact h2 (List.mem_singleton.mp e)
theorem nne {a b : Nat} (h : a ≠ b) : (a : Addr) ≠ (b : Addr) := h
theorem za_new {n l m : Nat} (h1 : l < n) (h2 : m < n) : ZA (n + 4 : Nat) (n + 2 : Nat) (n + 3 : Nat) n (n + 1 : Nat) [n, l] [(n + 1 : Nat), m] :=
  ⟨List.mem_cons_self, List.mem_cons_self, nin (a := n + 4) (b := n) (c := l) (by omega) (by omega), nin (a := n + 4) (b := n + 1) (c := m) (by omega) (by omega), nin (a := n + 3) (b := n) (c := l) (by omega) (by omega), nin (a := n + 3) (b := n + 1) (c := m) (by omega) (by omega),
    nin (a := n) (b := n + 1) (c := m) (by omega) (by omega), nin (a := n + 1) (b := n) (c := l) (by omega) (by omega), nne (a := n + 2) (b := n + 4) (by omega), nne (a := n + 2) (b := n + 3) (by omega), nne (a := n + 2) (b := n) (by omega), nne (a := n + 2) (b := n + 1) (by omega), nne (a := n + 3) (b := n + 4) (by omega)⟩
end
noncomputable def iZip (Sq1 Sq2 : Addr -> Hp -> List V -> Prop) (ta : TA) : TI := fun σ H R => ta σ H fun vs H1 => ∃ a b, vs = [.ref a, .ref b] /\ (∃ xs, Sq1 a H1 xs) /\ (∃ ys, Sq2 b H1 ys) /\ R (ItZ (Sq1 a) (Sq2 b)) H1
noncomputable abbrev SqTa (K : PySem.W.Frag) : Addr -> Hp -> List V -> Prop := fun a H xs => SqT K H a xs
section
variable {X : Cx} {elts : List Expr} {k : Nat} {pos' : Pos} {a b : Expr} {ta : TA} {p pos : Pos}
theorem pi_zipG {Sq1 Sq2 : Addr -> Hp -> List V -> Prop} (hg : Gl X "zip") (hm : X.mg "zip" = none) (ha : PA X [a, b] ta) (hs : starEach [a, b] X.env = [(false, eval a X.env), (false, eval b X.env)]) (hs2 : starEach [b] X.env = [(false, eval b X.env)])
    (hk : ∀ (pins : List (Addr × Obj)) (s : Shared) (σ : St) (H : Hp), Inv X pins σ H s -> ∀ u v xs ys, Sq1 u H xs -> Sq2 v H ys -> u < s.heap.objs.size /\ v < s.heap.objs.size /\ ∃ (c d : String) (P1 P2 : Heap -> Prop) (I1 I2 : Nat -> Heap -> Prop), ZMk c d P1 P2 u v /\ P1 s.heap /\ P2 s.heap /\
      ZS X.prog X.w X.K u s.heap.objs.size (Sq1 u) I1 /\ ZS X.prog X.w X.K v (s.heap.objs.size + 1) (Sq2 v) I2 /\ (∀ h' : Heap, h'.get? s.heap.objs.size = some { cls := .type c, data := .fields #[.ref u, .int 0 0] } -> I1 0 h') /\ ∀ h' : Heap, h'.get? (s.heap.objs.size + 1) = some { cls := .type d, data := .fields #[.ref v, .int 0 0] } -> I2 0 h') :
    PI X (.Tuple elts k pos') (.Call (.Name "zip" p) [a, b] [] pos) (iZip Sq1 Sq2 ta) := by
  intro pins s σ H R I h
  refine Call_ (ld_blt I hg hm boot_zip (PyProof.Rows.callWith_type1 (thn (ha pos pins s σ H _ I h) fun us s1 ⟨vs, H1, I1, r1, q1⟩ => ?_) (by rw [hs, hs2]) (by rw [hs2]; rfl)))
  obtain ⟨u, v, rfl, ⟨xs, hx⟩, ⟨ys, hy⟩, q⟩ := q1
  obtain ⟨u', v', rfl, ru, rv⟩ := vals2 r1
  cases ru
  cases rv
  obtain ⟨lu, lv, c, d, P1, P2, J1, J2, M, p1, p2, W1, W2, j1, j2⟩ := hk pins s1 σ H1 I1 u v xs ys hx hy
  refine M X.prog X.w X.A X.xe s1 _ p1 p2 fun h' z1 z2 z3 z4 z5 kk => wpAny_pyIter_zip z1 ?_
  refine ⟨s1.heap.objs.size + 4, [s1.heap.objs.size + 4, s1.heap.objs.size + 2, s1.heap.objs.size + 3, s1.heap.objs.size, s1.heap.objs.size + 1], _, _, H1, rfl, I1.kept (t' := s1.toks) kk, turn_zip W1 W2 (za_new lu lv) (Nat.ne_of_lt lu) (Nat.ne_of_lt (Nat.lt_succ_of_lt lv)), ⟨z1, z2, ⟨_, _, z3⟩, j1 h' z4, j2 h' z5⟩, fun e he => ?_, q⟩
  have he2 : s1.heap.objs.size <= e := by
    simp only [List.mem_cons, List.not_mem_nil, or_false] at he
    rcases he with g | g | g | g | g <;> rw [g] <;> omega
  exact I1.fpOk he2 (I1.hok.fresh he2)
theorem pi_zipTT (K : PySem.W.Frag) (hK : X.K = K) (hg : Gl X "zip") (hm : X.mg "zip" = none) (ha : PA X [a, b] ta) (hs : starEach [a, b] X.env = [(false, eval a X.env), (false, eval b X.env)] := by rfl) (hs2 : starEach [b] X.env = [(false, eval b X.env)] := by rfl) : PI X (.Tuple elts k pos') (.Call (.Name "zip" p) [a, b] [] pos) (iZip (SqTa K) (SqTa K) ta) := by
  subst hK
  refine pi_zipG hg hm ha hs hs2 fun pins s σ H I u v xs ys hx hy => ?_
  obtain ⟨xi, _, px, _⟩ := I.tuple hx
  obtain ⟨yi, _, py, _⟩ := I.tuple hy
  obtain ⟨ox, ex, _⟩ := id px
  obtain ⟨oy, ey, _⟩ := id py
  exact ⟨Heap.lt_size ex, Heap.lt_size ey, _, _, (fun h => h.IsTuple u xi.toArray), (fun h => h.IsTuple v yi.toArray), _, _, zmk_of (meets_zipTT u v xi.toArray yi.toArray), px, py, zs_tup u _, zs_tup v _, fun h' e => ⟨_, e, rfl, rfl⟩, fun h' e => ⟨_, e, rfl, rfl⟩⟩
end
theorem comp_zip {Sq1 Sq2 : Hp -> List V -> Prop} {xs ys : List V} {σc : St} {g : TG} {tc : TT} {te : TE} {Q : VK} {H1 : Hp} (Pv : Nat -> List V -> Hp -> Prop) (hlen : xs.length = ys.length) (hn : xs.length < sizeLine) (hl : ∀ i acc H, Pv i acc H -> Sq1 H xs /\ Sq2 H ys) (h0 : Pv 0 [] H1)
    (hs : ∀ (i : Nat) (x y : V) (acc : List V) (H : Hp) (T : Addr) (Nx : List V -> Hp -> Prop), xs[i]? = some x -> ys[i]? = some y -> acc.length <= i -> Pv i acc H -> H T = none -> (∀ acc' H', acc'.length <= i + 1 -> Pv (i + 1) acc' H' -> Nx acc' H') ->
      g (.ref T) σc (upd H T (.tup [x, y])) fun σ2 H2 => Wk σc σ2 /\ tc σ2 H2 fun b H3 => if b = true then te σ2 H3 fun v H4 => Nx (acc ++ [v]) H4 else Nx acc H3)
    (hd : ∀ acc H D, acc.length <= xs.length -> Pv xs.length acc H -> H D = none -> Q (.ref D) (upd H D (.lst acc))) : CompW (ItZ Sq1 Sq2) σc g tc te Q H1 := by
  refine ⟨fun i m acc H => m = xs.length - i /\ i <= xs.length /\ acc.length <= i /\ Pv i acc H, ⟨xs.length, by simp, Nat.zero_le _, Nat.le_refl _, h0⟩, ?_⟩
  rintro i m acc H ⟨rfl, hi, hl', p⟩
  obtain ⟨q1, q2⟩ := hl i acc H p
  refine ⟨by omega, ?_⟩
  by_cases hlt : i < xs.length
  · have hlt2 : i < ys.length := by omega
    refine .inr ⟨⟨xs, ys, xs[i], ys[i], q1, q2, by simp [hlt], by simp [hlt2]⟩, fun x H' y => ?_⟩
    obtain ⟨T, u, v, hu, hv, rfl, hT, rfl⟩ := y
    exact hs i u v acc _ T (fun acc' H' => ∃ m', m' < xs.length - i /\ (m' = xs.length - (i + 1) /\ i + 1 <= xs.length /\ acc'.length <= i + 1 /\ Pv (i + 1) acc' H')) (hu xs q1) (hv ys q2) hl' p hT fun acc' H' h1 h2 => ⟨xs.length - (i + 1), by omega, rfl, hlt, h1, h2⟩
  · have e : i = xs.length := by omega
    subst e
    exact .inl ⟨⟨xs, q1, ⟨ys, q2⟩, rfl⟩, fun D hD => hd acc H D hl' p hD⟩
end L2
namespace L2
open PySem PySem.Spec PyProof.Rows
section
variable {X : Cx}
end
end L2
namespace L2
open PySem PySem.Spec PyProof.Rows PySem.MeetsSeq PySem.SeqAt
section
variable {X : Cx}
end
end L2
namespace L2
open PySem PySem.Spec PyProof.Rows
end L2
set_option maxHeartbeats 4000000
namespace XL
open PySem PySem.Spec PySem.Calls PyProof.Rows PySem.W Builtin Builtin.ObjectAttr
noncomputable abbrev VB : List Value := [.type "ValueError", .type "Exception", .type "BaseException", .type "object"]
noncomputable def xIn (K : Frag) (C : Addr) : Bool := match K.lookup C with
  | some ⟨.type "type", _, .cls cd, sl⟩ => (match cd.mro, sl.toList with
    | .ref C' :: bm, [_, _, _, _, some (.builtin n), _] => C' == C && n == "ValueError.__new__" && !cd.hasDel && cd.hasDict && tailIn K VB bm && nsOkIn K cd.ns
    | _, _ => false)
  | _ => false
structure XObj (K : Frag) (h : Heap) (C : Addr) : Prop where
  obj : ∃ bm N nm q bs sn sub ab col dd k0 k1 k2 k3 k5 mN, h.get? C = some (excClassObj nm q C N bs bm true sn sub ab col dd k0 k1 k2 k3 k5 "ValueError.__new__") /\ h.Ns N mN /\ OwnTail h VB bm /\ clsIn K C = some { name := nm, bases := bs, mro := .ref C :: bm, ns := N, qualname := q, hasDict := true, slotNames := sn, subclasses := sub, abstract := ab, collection := col, hasDel := false }
section
variable {prog : Program} {w : World} {A : Around} {E : Value -> Shared -> Prop} {h : Heap} {g : Array GenState} {d : Drawn} {t : Nat} {os : OsState} {K : Frag} {C : Addr}
variable {x : Addr} {mA : Str -> Option Value} {name : Str} {v : Value}
end
end XL
set_option maxHeartbeats 4000000
namespace XL
open PySem PySem.Spec PySem.Calls PyProof.Rows PySem.W Builtin Builtin.ObjectAttr
structure XC (K : Frag) (C : Addr) : Prop where
  is : xIn K C = true
  ga : findIn K (.ref C) "__getattribute__" = some (some (.builtin "BaseException.__getattribute__"))
  gh : findIn K (.ref C) "__getattr__" = some none
  sa : findIn K (.ref C) "__setattr__" = some (some (.builtin "object.__setattr__"))
  cl : findIn K (.ref C) "__class__" = some (some (.builtin "object.__class__"))
  cg : specialIn K (.builtin "object.__class__") "__get__" = some (some (.builtin "getset_descriptor.__get__"))
  ct : takesIn K (.builtin "object.__class__") = some true
  ob : mroIn K C (.type "object") = some true
  kp : keepIn K (.ref C) = true
section
variable {prog : Program} {w : World} {A : Around} {E : Value -> Shared -> Prop} {h : Heap} {g : Array GenState} {d : Drawn} {t : Nat} {os : OsState} {K : Frag} {C x : Addr}
end
end XL
set_option maxHeartbeats 4000000
namespace XL
open PySem PySem.Spec PySem.Calls PyProof.Rows PySem.W
structure Kept (S ex : List Addr) (h h' : Heap) : Prop where
  keep : ∀ b o, b ∉ ex -> b ∉ S -> h.get? b = some o -> h'.get? b = some o
  slot : ∀ b o, b ∉ ex -> b ∈ S -> h.get? b = some o -> ∃ sl, h'.get? b = some { o with slots := sl }
section
variable {M : Model} {A : Around} {E : Value -> Shared -> Prop} {s : Shared} {base : Heap} {env : Env} {outer : List Env} {L e C : Addr} {dO : Option Addr}
end
end XL
set_option maxHeartbeats 4000000
namespace L2
open PySem PySem.Spec PyProof.Rows XL
noncomputable def excO (nw : Bool) (e C : Addr) (dO : Option Addr) : HO := .ext fun h => ∃ oe vs, h.get? e = some oe /\ oe.cls = .ref C /\ oe.dict = dO /\ oe.data = .fields vs /\ (nw = true -> vs[1]? = some .none /\ ∃ t0, vs[0]? = some (.ref t0))
noncomputable def xdO (d : Addr) (fs : List (Str × V)) : HO := .ext fun h => ∃ mA, h.Ns1 d mA /\ (∀ f, RelO (fs.lookup f) (mA f)) /\ PySem.Within mA (fs.map (·.1))
section
variable {P : Program} {w : World} {H H' H1 H2 : Hp} {h h' h0 h1 h2 : Heap} {a e : Addr} {o : HO} {fs ex S : List Addr}
end
section
variable {P : Program} {w : World} {K : PySem.W.Frag} {mg : Str -> Option Value} {base : Heap} {N : List Str} {qual : Str} {scope : Scope} {f : Addr} {cd : Value} {A : Around} {outer : List Env} {s : Shared} {H : Hp} {E : XK}
end
end L2
set_option maxHeartbeats 4000000
namespace L2
open PySem PySem.Spec PyProof.Rows XL
section
variable {X : Cx} {pins : List (Addr × Obj)} {σ : St} {H : Hp} {s : Shared} {a : Addr} {o : HO}
end
section
variable {X : Cx} {CX : CXT} {k : Nat} {f C : Addr} {fd : FuncData} {ps : List Str} {sp : Sp} {dvs : List V} {ds : List Value} {E : St -> XK} {x : Str} {p pos : Pos} {e : Expr} {es : List Expr} {ta te : TE} {t : TA}
end
section
variable {P : Program} {w : World} {K : PySem.W.Frag} {mg : Str -> Option Value} {base : Heap}
end
end L2
set_option maxHeartbeats 4000000
namespace L2
open PySem PySem.Spec PyProof.Rows XL
structure XInit (K : PySem.W.Frag) (C f : Addr) : Prop where
  c : XC K C
  init : PySem.W.findIn K (.ref C) "__init__" = some (some (.ref f))
  fn : PySem.W.isFn K (.ref f) = true
structure XBase (K : PySem.W.Frag) (M : Addr) : Prop where
  rd : PySem.W.readsIn K M (.type "type") = true
  ga : PySem.W.specialIn K (.ref M) "__getattribute__" = some (some (.builtin "type.__getattribute__"))
  fi : PySem.W.findCls K (.ref M) (.type "type") "__init__" = some (.val (.builtin "ValueError.__init__"))
section
variable {X : Cx} {k : Nat} {f C M : Addr} {fd : FuncData} {ps : List Str} {sp : Sp} {x : Str} {p pos apos : Pos} {e : Expr} {es : List Expr} {ta te tv : TE} {t : TA} {pins : List (Addr × Obj)} {σ : St} {H : Hp} {s : Shared}
end
end L2
set_option maxHeartbeats 4000000
namespace L2
open PySem PySem.Spec PyProof.Rows XL
section
variable {X : Cx} {pins pn : List (Addr × Obj)} {σ : St} {H : Hp} {s : Shared} {W : Value -> Shared -> Prop} {ev : Value}
end
section
variable {X : Cx} {M : Addr} {n : Nat} {mx nm : Str} {body suite : List Stmt} {b₀ : Stmt} {tb : (St -> XK) -> TS} {th : TS} {pos hpos mp : Pos} {pins : List (Addr × Obj)} {σ : St} {H : Hp} {s : Shared} {D : Ends}
end
end L2
set_option maxHeartbeats 4000000
namespace L2
open PySem PySem.Spec PyProof.Rows XL
structure Made (H H' : Hp) (e d : Addr) (C : Addr) (fs : List (Str × V)) : Prop where
  ne : H e = none
  nd : H d = none
  ap : d ≠ e
  at_ : H' e = some (excO true e C (some d))
  di : H' d = some (xdO d fs)
  old : ∀ b, b ≠ e -> b ≠ d -> H' b = H b
end L2
set_option maxHeartbeats 4000000
namespace L2
open PySem PySem.Spec PyProof.Rows XL
end L2
namespace PySem
end PySem
namespace L2
open PySem PySem.Spec PyProof.Rows
structure FnOkG (P : Program) (w : World) (K : PySem.W.Frag) (mg : Str -> Option Value) (base : Heap) (k : Nat) (f : Addr) (fd : FuncData) (ps : List Str) (sp : Sp) (pre : List Value -> Shared -> Prop) (post : Shared -> Prop) : Prop where
  len : ∀ vs H Q E, sp vs H Q E -> vs.length = ps.length
  run : ∀ (A : Around) (outer : List Env) (s : Shared) (H : Hp) (args : Args) (us : List Value) (vs : List V) (Q : VK) (E : XK), Room k A -> Env0 P w K mg base A outer s H -> BindsTo s fd args (ps.zip us) -> Vals vs us -> pre us s -> sp vs H Q E ->
    codeAny (model P w) A (.call (.ref f) args) (fun r s' => CR CX0 outer P w H s Q E r s' /\ post s') s
section
variable {P : Program} {w : World} {K : PySem.W.Frag} {mg : Str -> Option Value} {base : Heap}
end
end L2
namespace L2
open PySem PySem.Spec PyProof.Rows
noncomputable def spl (c : Nat) : List Nat -> List (List Nat)
  | [] => [[]]
  | d :: r => if d = c then [] :: spl c r else match spl c r with | [] => [[d]] | p :: ps => (d :: p) :: ps
theorem spl_ne (c : Nat) : ∀ l, ∃ p ps, spl c l = p :: ps
  | [] => ⟨_, _, rfl⟩
  | d :: r => by
    unfold spl
    split
    · exact ⟨_, _, rfl⟩
    · obtain ⟨p, ps, e⟩ := spl_ne c r
      rw [e]; exact ⟨_, _, rfl⟩
noncomputable def ats (c : Nat) : Nat -> List Nat -> List Nat
  | _, [] => []
  | a, d :: r => if d = c then a :: ats c (a + 1) r else ats c (a + 1) r
theorem occ_ats (l : List Nat) (c lim : Nat) : ∀ (r : List Nat) (a : Nat) (st : Array Nat × Nat), l.drop a = r -> st.2 <= a -> st.1.size + r.length < lim ->
    (forIn (List.range' a (r.length + 1)) st (StrLaws.occBody (S l) (S [c]) l.length lim)).run.fst.toList = st.1.toList ++ ats c a r
  | [], a, st, hd, hf, hl => by
    have hal : l.length <= a := List.drop_eq_nil_iff.mp hd
    show (forIn [a] st (StrLaws.occBody (S l) (S [c]) l.length lim)).run.fst.toList = st.1.toList ++ []
    rw [List.forIn_cons, List.append_nil]
    unfold StrLaws.occBody
    rw [if_neg (by rw [S_len]; simp only [List.length_cons, List.length_nil]; omega)]
    rfl
  | d :: r, a, st, hd, hf, hl => by
    have hal : a < l.length := by
      have := congrArg List.length hd
      simp only [List.length_drop, List.length_cons] at this
      omega
    have hget : l[a]? = some d := by
      have := congrArg (fun z => z[0]?) hd
      simpa using this
    have hd' : l.drop (a + 1) = r := by
      have := congrArg List.tail hd
      simpa using this
    show (forIn (a :: List.range' (a + 1) (r.length + 1)) st (StrLaws.occBody (S l) (S [c]) l.length lim)).run.fst.toList = _
    rw [List.forIn_cons]
    have hsub : Builtin.Str.subAt (S l) (S [c]) a = (l[a]? == some c) := subAt_one l c a
    simp only [List.length_cons] at hl
    by_cases h : d = c
    · subst h
      unfold StrLaws.occBody
      rw [if_pos (by rw [hsub, hget, S_len]; simp only [List.length_cons, List.length_nil]; exact ⟨⟨⟨by omega, hf⟩, by omega⟩, by simp⟩)]
      have ih := occ_ats l d lim r (a + 1) (st.1.push a, a + (S [d]).length) hd' (by rw [S_len]; simp) (by simp only [Array.size_push]; omega)
      unfold ats
      rw [if_pos rfl]
      refine Eq.trans ih ?_
      simp
    · unfold StrLaws.occBody
      rw [if_neg (by rw [hsub, hget]; simp [h])]
      have ih := occ_ats l c lim r (a + 1) st hd' (by omega) (by omega)
      unfold ats
      rw [if_neg h]
      exact ih
theorem occ_all (l : List Nat) (c lim : Nat) (h : l.length < lim) : Builtin.Str.occurrences (S l) (S [c]) 0 (S l).length lim = ats c 0 l := by
  rw [StrLaws.occ_eq, S_len]
  exact (occ_ats l c lim l 0 (#[], 0) rfl (Nat.le_refl _) (by simpa using h)).trans (by simp)
theorem strSub_S (l : List Nat) (i j : Nat) : Builtin.Str.strSub (S l) i j = S ((l.drop i).take (j - i)) := by
  apply Str.ext'
  apply Array.toList_inj.mp
  rw [StrLaws.strSub_toList]
  simp [S]
theorem parts_spl (l : List Nat) (c : Nat) : ∀ (r : List Nat) (a b : Nat), b <= a -> l.drop a = r -> (∀ d ∈ (l.drop b).take (a - b), d ≠ c) ->
    StrLaws.partsFrom (S l) 1 b (ats c a r) = ((match spl c r with | [] => [] | p :: ps => ((l.drop b).take (a - b) ++ p) :: ps)).map S
  | [], a, b, hba, hd, hn => by
    have hal : l.length <= a := List.drop_eq_nil_iff.mp hd
    show [Builtin.Str.strSub (S l) b (S l).length] = [S ((l.drop b).take (a - b) ++ [])]
    rw [strSub_S, S_len, List.append_nil]
    congr 2
    rw [List.take_of_length_le (by rw [List.length_drop]; omega), List.take_of_length_le (by rw [List.length_drop]; omega)]
  | d :: r, a, b, hba, hd, hn => by
    have hal : a < l.length := by
      have := congrArg List.length hd
      simp only [List.length_drop, List.length_cons] at this
      omega
    have hd' : l.drop (a + 1) = r := by
      have := congrArg List.tail hd
      simpa using this
    have hget : l[a]? = some d := by
      have := congrArg (fun z => z[0]?) hd
      simpa using this
    by_cases h : d = c
    · subst h
      unfold ats spl
      rw [if_pos rfl, if_pos rfl]
      show Builtin.Str.strSub (S l) b a :: StrLaws.partsFrom (S l) 1 (a + 1) (ats d (a + 1) r) = S _ :: (spl d r).map S
      rw [strSub_S, List.append_nil, parts_spl l d r (a + 1) (a + 1) (Nat.le_refl _) hd' (by simp)]
      obtain ⟨p, ps, e⟩ := spl_ne d r
      rw [e]
      simp
    · have e1 : (l.drop b).take (a + 1 - b) = (l.drop b).take (a - b) ++ [d] := by
        have e0 : a + 1 - b = (a - b) + 1 := by omega
        rw [e0, List.take_add_one, List.getElem?_drop]
        have e2 : b + (a - b) = a := by omega
        rw [e2, hget]
        rfl
      have ih := parts_spl l c r (a + 1) b (by omega) hd' (by
        rw [e1]
        intro z hz
        rcases List.mem_append.mp hz with q | q
        · exact hn z q
        · rw [List.mem_singleton.mp q]; exact h)
      unfold ats spl
      rw [if_neg h, if_neg h, ih]
      obtain ⟨p, ps, e⟩ := spl_ne c r
      rw [e, e1]
      simp
theorem split_S (l : List Nat) (c lim : Nat) (h : l.length < lim) : Builtin.Str.partsBetween (S l) (Builtin.Str.occurrences (S l) (S [c]) 0 (S l).length lim) 1 = (spl c l).map S := by
  rw [StrLaws.partsBetween_eq, occ_all l c lim h, parts_spl l c l 0 0 (Nat.le_refl _) rfl (by simp)]
  obtain ⟨p, ps, e⟩ := spl_ne c l
  rw [e]
  simp
theorem ats_none (c : Nat) : ∀ (l : List Nat) (a : Nat), ats c a l = [] -> l.filter (fun d => decide (d ≠ c)) = l
  | [], _, _ => rfl
  | d :: r, a, h => by
    unfold ats at h
    by_cases e : d = c
    · rw [if_pos e] at h; cases h
    · rw [if_neg e] at h
      rw [List.filter_cons_of_pos (by simpa using e), ats_none c r (a + 1) h]
end L2
namespace L2
open PySem PySem.Spec PyProof.Rows
noncomputable def TokIn (X : Cx) (x : Str) (s : Shared) : Prop := ∃ m z t, s.heap.Ns X.env.locals m /\ m x = some (.str z t) /\ t ≠ 0 /\ t < s.toks
section
variable {X : Cx}
end
end L2
namespace L2
open PySem PySem.Spec PyProof.Rows
structure TurnT (P : Program) (w : World) (K : PySem.W.Frag) (tg : Expr) (J : It) (fp : List Addr) (it : Addr) (tn : Nat -> Heap -> Prop) : Prop extends Turn P w K tg J fp it tn where
  itemT : ∀ (X : Cx), X.prog = P -> X.w = w -> X.K = K -> X.calm = true -> ∀ (i : Nat) (pins : List (Addr × Obj)) (s : Shared) (σ : St) (H : Hp) (E : Value -> Shared -> Prop), Inv X pins σ H s -> (∀ b ∈ fp, FpOk X pins H b) -> tn i s.heap -> J.go i H ->
    wpAny (model P w) X.A (pyNext (.ref it)) (fun r s1 => ∃ u, r = some u /\ (∃ z, u = .str z s.toks) /\ s1.toks = s.toks + 1 /\
      wpAny (model P w) X.A (letOwnedTupleGo tg (.ref it) u) (fun _ s2 => ∃ x H', Inv X pins σ H' s2 /\ RelV x u /\ J.yld i H x H' /\ tn (i + 1) s2.heap /\ ∀ b ∈ fp, H' b = none) E s1) E s
end L2
namespace L2
open PySem PySem.Spec PyProof.Rows
section
variable {X : Cx}
end
end L2
set_option maxHeartbeats 1000000
namespace L2.F3
open PySem PySem.Spec PyProof.Rows
end L2.F3
namespace L2
open PySem PySem.Spec PyProof.Rows
section
variable {prog : Program} {w : World} {A : Around} {E : Value -> Shared -> Prop} {s : Shared}
end
section
variable {X : Cx}
end
section
variable {P : Program} {w : World} {K : PySem.W.Frag} {mg : Str -> Option Value} {base : Heap}
end
end L2
namespace L2
open PySem PySem.Spec PyProof.Rows
noncomputable def joinc (c : Nat) : List (List Nat) -> List Nat
  | [] => []
  | [p] => p
  | p :: q :: r => p ++ c :: joinc c (q :: r)
theorem glued_S (c : Nat) : ∀ (ps : List (List Nat)), Builtin.Str.glued (S [c]) (ps.map S) = S (joinc c ps)
  | [] => rfl
  | [p] => rfl
  | p :: q :: r => by
    have ih := glued_S c (q :: r)
    rw [StrLaws.glued_eq_join] at ih ⊢
    show S p ++ S [c] ++ Str.join (S [c]) ((q :: r).map S) = _
    rw [ih, S_app, S_app, List.append_assoc]
    rfl
theorem joinc_len (c : Nat) : ∀ ps : List (List Nat), (joinc c ps).length <= (ps.map List.length).sum + ps.length
  | [] => Nat.le_refl _
  | [p] => by simp [joinc]
  | p :: q :: r => by
    have ih := joinc_len c (q :: r)
    unfold joinc
    simp only [List.length_append, List.length_cons, List.map_cons, List.sum_cons] at ih ⊢
    omega
theorem spl_app {c : Nat} : ∀ {p : List Nat} (r : List Nat), c ∉ p -> spl c (p ++ c :: r) = p :: spl c r
  | [], r, _ => by
    show spl c (c :: r) = _
    conv => lhs; unfold spl
    rw [if_pos rfl]
  | d :: p, r, h => by
    have hd : d ≠ c := fun z => h (by rw [z]; exact List.mem_cons_self)
    have ih := spl_app r (fun z => h (List.mem_cons_of_mem _ z) : c ∉ p)
    show spl c (d :: (p ++ c :: r)) = _
    conv => lhs; unfold spl
    rw [if_neg hd, ih]
theorem spl_one {c : Nat} : ∀ {p : List Nat}, c ∉ p -> spl c p = [p]
  | [], _ => rfl
  | d :: p, h => by
    have hd : d ≠ c := fun z => h (by rw [z]; exact List.mem_cons_self)
    have ih := spl_one (fun z => h (List.mem_cons_of_mem _ z) : c ∉ p)
    unfold spl
    rw [if_neg hd, ih]
theorem spl_join {c : Nat} : ∀ {ps : List (List Nat)}, ps ≠ [] -> (∀ p ∈ ps, c ∉ p) -> spl c (joinc c ps) = ps
  | [], h, _ => absurd rfl h
  | [p], _, h => spl_one (h p List.mem_cons_self)
  | p :: q :: r, _, h => by
    show spl c (p ++ c :: joinc c (q :: r)) = _
    rw [spl_app _ (h p List.mem_cons_self), spl_join (by simp) (fun x hx => h x (List.mem_cons_of_mem _ hx))]
theorem spl_sum (c : Nat) : ∀ l : List Nat, (spl c l).length <= l.length + 1
  | [] => Nat.le_refl _
  | d :: r => by
    have ih := spl_sum c r
    unfold spl
    split
    · simp only [List.length_cons]; omega
    · obtain ⟨p, ps, e⟩ := spl_ne c r
      rw [e] at ih ⊢
      simp only [List.length_cons] at ih ⊢
      omega
theorem txtSplit (l : List Nat) (c : Nat) : Txt.split (S l) (S [c]) = (spl c l).map S := by
  have hp := split_S l c (l.length + 1) (Nat.lt_succ_self _)
  have ho := occ_all l c (l.length + 1) (Nat.lt_succ_self _)
  have hnone : ats c 0 l = [] -> (spl c l).map S = [S l] := fun e => by
    have hc : c ∉ l := fun z => by
      have e2 := ats_none c l 0 e
      have : c ∈ l.filter fun d => decide (d ≠ c) := by rw [e2]; exact z
      have := (List.mem_filter.mp this).2
      simp at this
    rw [spl_one hc]; rfl
  unfold Txt.split
  have e0 : (S l).length + 1 = l.length + 1 := by rw [S_len]
  have e1 : (S [c]).length = 1 := by rw [S_len]; rfl
  rw [e0, ho]
  split
  · rename_i h
    by_cases hz : ats c 0 l = []
    · exact (hnone hz).symm
    · exfalso
      rw [Bool.or_eq_true] at h
      have hcl : c ∈ l := by
        by_cases z : c ∈ l
        · exact z
        · exfalso
          apply hz
          have : ∀ (r : List Nat) (a : Nat), c ∉ r -> ats c a r = [] := by
            intro r
            induction r with
            | nil => intro a _; rfl
            | cons d r ih =>
              intro a hn
              unfold ats
              rw [if_neg (fun q : d = c => hn (by rw [q]; exact List.mem_cons_self)), ih (a + 1) (fun q => hn (List.mem_cons_of_mem _ q))]
          exact this l 0 z
      rcases h with h | h
      · have h' := of_decide_eq_true h
        rw [S_len, e1] at h'
        have := List.length_pos_of_mem hcl
        omega
      · have h' := of_decide_eq_true h
        unfold Builtin.Str.strKind at h'
        have k1 : ∀ b : Nat, (S l).cps.all (· < b) = true -> (S [c]).cps.all (· < b) = true := fun b hb => by
          have ea : ∀ m : List Nat, (S m).cps.all (· < b) = m.all fun x => decide (x < b) := fun m => by simp [S]
          rw [ea, List.all_eq_true] at hb
          rw [ea, List.all_eq_true]
          intro x hx
          rw [List.mem_singleton.mp hx]
          exact hb c hcl
        by_cases a1 : (S l).cps.all (· < 256) = true
        · rw [if_pos a1, if_pos (k1 256 a1)] at h'; omega
        · rw [if_neg a1] at h'
          by_cases a2 : (S l).cps.all (· < 65536) = true
          · rw [if_pos a2] at h'
            split at h'
            · omega
            · rw [if_pos (k1 65536 a2)] at h'; omega
          · rw [if_neg a2] at h'
            repeat' split at h'
            all_goals omega
  · split
    · rename_i h
      exact (hnone (List.isEmpty_iff.mp h)).symm
    · rw [<- ho, e1]
      exact hp
section
variable {X : Cx}
noncomputable def rJoinC (K : PySem.W.Frag) (c : Nat) : V -> List V -> Hp -> VK -> Prop := fun x vs H Q => ∃ (p : Addr) (ls : List (List Nat)), x = .str (S [c]) /\ vs = [.ref p] /\ SqL K H p (ls.map fun l => V.str (S l)) /\ (ls.map List.length).sum + ls.length <= 16777216 /\ Q (.str (S (joinc c ls))) H
theorem mt_joinC (K : PySem.W.Frag) (c : Nat) (hK : X.K = K) : MtR X "str.join" (rJoinC K c) := by
  subst hK
  intro pins s σ H x xs v us Q I rx rv h
  obtain ⟨p, ls, rfl, rfl, hq, hz, q⟩ := h
  obtain ⟨t, rfl⟩ := rx
  obtain ⟨u, rfl, ru⟩ := vals1 rv
  cases ru
  obtain ⟨its, r, pl, _⟩ := I.list hq
  have e : (S [c]).length = 1 := by rw [S_len]; rfl
  refine join_list pl.isList (by simpa using strsAre_of r) ?_ fun t' k => ?_
  · rw [e, Nat.mul_one, List.map_map, List.length_map]
    have : ((ls.map ((fun x : Str => x.length) ∘ S)).sum) = (ls.map List.length).sum := congrArg List.sum (List.map_congr_left fun l _ => S_len l)
    rw [this]; exact hz
  · have e2 : Txt.join (S [c]) (ls.map S) = S (joinc c ls) := glued_S c ls
    rw [e2]
    exact ⟨.str (S (joinc c ls)), H, I.tok _, ⟨_, rfl⟩, q⟩
noncomputable def rSplitC (c : Nat) : V -> List V -> Hp -> VK -> Prop := fun x vs H Q => ∃ l, x = .str (S l) /\ vs = [.str (S [c])] /\ l.length <= 1000000 /\ ∀ p, H p = none -> Q (.ref p) (upd H p (.lst ((spl c l).map fun l => V.str (S l))))
theorem vals_numbered : ∀ (ps : List (List Nat)) (tv : List (Str × Tok)), tv.map (·.1) = ps.map S -> Vals (ps.map fun l => V.str (S l)) (strValues tv)
  | [], [], _ => .nil
  | p :: ps, (a, t) :: tv, h => by
    simp only [List.map_cons, List.cons.injEq] at h
    obtain ⟨rfl, h⟩ := h
    exact .cons ⟨t, rfl⟩ (vals_numbered ps tv h)
  | [], _ :: _, h => by simp at h
  | _ :: _, [], h => by simp at h
theorem mt_splitC (c : Nat) : MtR X "str.split" (rSplitC c) := by
  intro pins s σ H x xs v us Q I rx rv h
  obtain ⟨l, rfl, rfl, hz, q⟩ := h
  obtain ⟨t, rfl⟩ := rx
  obtain ⟨u, rfl, tu, rfl⟩ := vals1 rv
  have hn := line63
  have hlen := spl_sum c l
  have fin : ∀ (tv : List (Str × Tok)) (k : Nat), tv.map (·.1) = Txt.split (S l) (S [c]) -> EP X pins σ Q (.ref s.heap.objs.size) { s with heap := s.heap.push { cls := .type "list", data := .seq (strValues tv).toArray }, toks := k } := fun tv k e => by
    rw [txtSplit] at e
    have hf : H s.heap.objs.size = none := I.hok.fresh (Nat.le_refl _)
    refine ⟨.ref s.heap.objs.size, _, I.laid (o := .lst ((spl c l).map fun l => V.str (S l))) (t' := k) (fun b u e => Heap.get?_push_of_some _ e) (Nat.le_refl _) ?_, rfl, q _ hf⟩
    refine ⟨by rw [List.length_map]; have : (1000001 : Nat) <= sizeLine := (by decide); omega, strValues tv, 0, vals_numbered _ _ e, Heap.get?_push_size _ rfl⟩
  have hxs : (S l).length <= sizeLine := by rw [S_len]; have : (1000001 : Nat) <= sizeLine := (by decide); omega
  have hps : (Builtin.Str.partsBetween (S l) (Builtin.Str.occurrences (S l) (S [c]) 0 (S l).length ((S l).length + 1)) (S [c]).length).length <= sizeLine := by
    have e1 : (S [c]).length = 1 := by rw [S_len]; rfl
    rw [e1, split_S l c _ (by rw [S_len]; exact Nat.lt_succ_self _), List.length_map]
    have : (1000001 : Nat) <= sizeLine := by decide
    omega
  have hy : ((S [c]).length == 0) = false := by rw [S_len]; rfl
  show wpAny _ _ (call (.builtin "str.split") [.str (S l) t, .str (S [c]) tu]) _ _ s
  cases h1 : (decide ((S l).length < (S [c]).length) || decide (Builtin.Str.strKind (S l) < Builtin.Str.strKind (S [c])))
  · cases hf : (Builtin.Str.occurrences (S l) (S [c]) 0 (S l).length ((S l).length + 1)).isEmpty
    · refine call_meets F.slot_str_split (typeIs_str _ _ _) F.entry_str_split (F.args_str_split_2 _ _) (meets_str_split_sep (S l) (S [c]) t tu h1 hy hf hxs hps) ?_
      show wants _ _ _ { s with toks := _, heap := s.heap.push { cls := .type "list", data := .seq (strsFrom s.toks _).toArray } }
      rw [strsFrom_eq]
      exact fin (numbered s.toks _) _ ((numbered_texts _ _).trans ((if_neg (ne_true_of_eq_false h1)).trans (if_neg (ne_true_of_eq_false hf))).symm)
    · exact call_meets F.slot_str_split (typeIs_str _ _ _) F.entry_str_split (F.args_str_split_2 _ _) (meets_str_split_not_found (S l) (S [c]) t tu h1 hy hf)
        (fin [(S l, t)] s.toks ((if_neg (ne_true_of_eq_false h1)).trans (if_pos hf)).symm)
  · exact call_meets F.slot_str_split (typeIs_str _ _ _) F.entry_str_split (F.args_str_split_2 _ _) (meets_str_split_cannot_occur (S l) (S [c]) t tu h1)
      (fin [(S l, t)] s.toks (if_pos h1).symm)
noncomputable def dg (n : Nat) : List Nat := ((toString (n : Int) : String) : Str).cps.toList
theorem dg_S (n : Nat) : ((toString (n : Int) : String) : Str) = S (dg n) := S_of _
theorem log_small {n : Nat} (h : n < 2 ^ 60) : ((n : Int)).natAbs.log2 < 1920 := by
  rw [Int.natAbs_natCast]
  by_cases z : n = 0
  · subst z; decide
  · exact (Nat.log2_lt z).mpr (Nat.lt_of_lt_of_le h (Nat.pow_le_pow_right (by decide) (by decide)))
theorem call_strN : CallR X (.type "str") (fun xs H Q => ∃ n : Nat, xs = [.int n] /\ n < 2 ^ 60 /\ Q (.str (S (dg n))) H) := by
  intro pins s σ H xs us Q I r h
  obtain ⟨n, rfl, hz, q⟩ := h
  refine call_str_int pins s σ H _ us Q I r ⟨n, rfl, log_small hz, ?_⟩
  rw [dg_S]
  exact q
end
end L2
namespace L2
open PySem PySem.Spec PyProof.Rows
structure ZT (P : Program) (w : World) (K : PySem.W.Frag) (fp : List Addr) (it : Addr) (Sq : Hp -> List V -> Prop) (IT : Nat -> Heap -> Prop) : Prop where
  obj : ∀ i h, IT i h -> ∃ o, h.get? it = some o /\ ∀ v, o.data ≠ .cell v
  keep : ∀ i h h', IT i h -> (∀ o, h.get? it = some o -> h'.get? it = some o) -> IT i h'
  inj : ∀ (X : Cx), X.K = K -> ∀ (pins : List (Addr × Obj)) (s : Shared) (σ : St) (H : Hp), Inv X pins σ H s -> ∀ xs ys, Sq H xs -> Sq H ys -> xs = ys
  draws : ∀ (X : Cx), X.prog = P -> X.w = w -> X.K = K -> X.calm = true -> ∀ (pins : List (Addr × Obj)) (s : Shared) (σ : St) (H : Hp), Inv X pins σ H s -> ∀ xs, Sq H xs ->
    ∃ (PP : Nat -> Value -> Prop) (SS : Nat -> Heap -> Prop), (∀ i x v, xs[i]? = some x -> PP i v -> RelV x v) /\ Draws P w X.A.in1 it fp xs.length PP SS /\ (∀ i, IT i s.heap -> SS i s.heap) /\ ∀ i h, SS i h -> IT i h
section
variable {X : Cx} {elts : List Expr} {k : Nat} {pos' : Pos} {a b : Expr} {ta : TA} {p pos : Pos}
end
end L2
set_option maxHeartbeats 1000000
namespace L2
open PySem PySem.Spec PyProof.Rows
section
variable {prog : Program} {w : World} {A : Around} {E : Value -> Shared -> Prop} {s : Shared} {KK : Type} [DecidableEq KK] {knd : PySem.KeyKind prog w KK}
end
section
variable {X : Cx}
end
end L2
namespace L2
open PySem PySem.Spec PyProof.Rows
theorem fn_never {P : Program} {w : World} {K : PySem.W.Frag} {mg : Str -> Option Value} {base : Heap} {CX : CXT} {k : Nat} {f : Addr} {fd : FuncData} {ps : List Str} {sp : Sp} (h : ∀ vs H Q E, sp vs H Q E -> False) : FnOk P w K mg base CX k f fd ps sp :=
  ⟨fun vs H Q E x => (h vs H Q E x).elim, fun _ _ _ H _ _ vs Q E _ _ _ _ x => (h vs H Q E x).elim⟩
section
variable {X : Cx}
noncomputable def rIsTupG : List V -> Hp -> VK -> Prop := fun xs H Q => ∃ x, xs = [x, .ty "tuple"] /\ ((∃ p ys, x = .ref p /\ H p = some (.tup ys) /\ Q (.bl true) H) \/ (∃ z, x = .str z /\ Q (.bl false) H) \/ ∃ i, x = .int i /\ Q (.bl false) H)
theorem call_isTupG (K : PySem.W.Frag) (h : X.K = K) : CallR X (.builtin "isinstance") rIsTupG := by
  subst h
  intro pins s σ H xs us Q I r h
  obtain ⟨x, rfl, h⟩ := h
  obtain ⟨u, w', rfl, r1, r2⟩ := vals2 r
  cases (show w' = Value.type "tuple" from r2)
  rcases h with ⟨p, ys, rfl, hq, q⟩ | ⟨z, rfl, q⟩ | ⟨i, rfl, q⟩
  · exact isinst_ok I r1 (.tup hq) (by unfold PySem.W.kitOne; rw [if_pos (by decide)]) fun tk => ⟨.bl true, H, I.tok _, rfl, q⟩
  · exact isinst_ok I r1 (.str z) (b := false) (by unfold PySem.W.kitOne; rw [if_neg (by decide)]; rfl) fun tk => ⟨.bl false, H, I.tok _, rfl, q⟩
  · exact isinst_ok I r1 (.int i) (b := false) (by unfold PySem.W.kitOne; rw [if_neg (by decide)]; rfl) fun tk => ⟨.bl false, H, I.tok _, rfl, q⟩
noncomputable def rUpperL : V -> List V -> Hp -> VK -> Prop := fun x vs H Q => ∃ l : List Nat, x = .str (S l) /\ vs = [] /\ (∀ c ∈ l, c < 128) /\ l.length <= 1000 /\ Q (.str (S (l.map up1))) H
theorem upper_list {l : List Nat} (h : ∀ c ∈ l, c < 128) : Txt.upper (S l) = S (l.map up1) := by
  rw [upper_ascii (by intro d hd; rw [S_list] at hd; exact h d hd)]
  simp [S]
theorem mt_upperL : MtR X "str.upper" rUpperL := by
  intro pins s σ H x xs v us Q I rx rv h
  obtain ⟨l, rfl, rfl, hc, hz, q⟩ := h
  obtain ⟨t, rfl⟩ := rx
  have e : us = [] := by cases rv; rfl
  subst e
  refine SC.upper (by rw [upper_list hc, S_len, List.length_map]; unfold Builtin.Str.tooLong; have : (1000 : Nat) <= sizeLine := by decide
                      exact decide_eq_false (by omega)) ⟨.str (S (l.map up1)), H, I.tok _, ⟨_, congrArg (fun z => Value.str z _) (upper_list hc)⟩, q⟩
end
end L2
set_option maxHeartbeats 4000000
namespace XL
open PySem PySem.Spec PySem.Calls PyProof.Rows PySem.W
section
variable {M : Model} {A : Around} {E : Value -> Shared -> Prop} {s : Shared} {base : Heap} {env env' : Env} {outer : List Env} {L e C : Addr} {dO : Option Addr}
end
end XL
set_option maxHeartbeats 4000000
namespace L2
open PySem PySem.Spec PyProof.Rows XL
section
variable {P : Program} {w : World} {K : PySem.W.Frag} {mg : Str -> Option Value} {base : Heap} {N : List Str} {qual : Str} {scope : Scope} {f : Addr} {cd : Value} {A : Around} {outer : List Env} {s : Shared} {H : Hp} {E : XK}
end
section
variable {X : Cx} {scope : Scope} {C : Addr} {Nc : List Str} {s0 : Shared} {H0 : Hp} {fp : List Addr} {pn pins : List (Addr × Obj)} {xe : Value -> Shared -> Prop} {σ : St} {H : Hp} {s : Shared}
end
end L2
set_option maxHeartbeats 1000000
namespace L2
open PySem PySem.Spec PyProof.Rows
section
variable {X : Cx}
end
end L2
namespace L2
open PySem PySem.Spec PyProof.Rows
section
variable {X : Cx}
end
end L2
namespace PySem
open Sem (wp)
section
variable {prog : Program} {w : World} {K : Type} [DecidableEq K] (knd : KeyKind prog w K)
noncomputable def IsPairKey (h : Heap) (p : K × List K) (a : Addr) : Prop := ∃ o v b n, h.get? a = some o /\ o.cls = .type "tuple" /\ o.data = .seq #[v, .ref b] n /\ knd.is p.1 v = true /\ IsTupleKey knd h p.2 b
variable {knd}
variable {A : Around} {E : Value -> Shared -> Prop} {s : Shared}
end
end PySem
namespace PySem
open Sem (wp)
namespace F
end F
section
variable {prog : Program} {w : World} {A : Around} {E : Value -> Shared -> Prop} {s : Shared}
end
section
variable {prog : Program} {w : World} {K : Type} [DecidableEq K] {knd : HeapKind prog w K} {A : Around} {E : Value -> Shared -> Prop} {s : Shared}
end
end PySem
namespace L2
open PySem PySem.Spec PyProof.Rows
noncomputable def KeyAt (H : Hp) (k : Key × List Key) (a : Addr) : Prop := ∃ b, H a = some (.tup [kV k.1, .ref b]) /\ H b = some (.tup (k.2.map kV))
section
variable {X : Cx} {o i : Expr} {pos : Pos} {td ty : TE}
structure PIt where
  t : Addr
  a : Addr
  k : Key × List Key
  n : Int
structure PItOk (H : Hp) (e : PIt) : Prop where
  tp : H e.t = some (.tup [.ref e.a, .int e.n])
  ky : KeyAt H e.k e.a
end
end L2
namespace L2.F2
open PySem PySem.Spec PyProof.Rows
end L2.F2
namespace L2
open PySem PySem.Spec PyProof.Rows
section
variable {prog : Program} {w : World} {A : Around} {E : Value -> Shared -> Prop} {s : Shared}
noncomputable def IsRevT (h : Heap) (it a : Addr) (i : Int) : Prop := ∃ o, h.get? it = some o /\ o.cls = .type "reversed" /\ o.data = .fields #[.ref a, rawInt i]
end
section
variable {X : Cx} {tg : Expr}
end
end L2
set_option maxHeartbeats 1000000
namespace L2
open PySem PySem.Spec PyProof.Rows
section
variable {X : Cx}
end
end L2
namespace L2
open PySem PySem.Spec PyProof.Rows PySem.W
section
noncomputable def Ev (lt : Nat -> Nat -> Bool) (n : Nat) {α : Type} : KasT α -> (α -> Prop) -> Prop
  | .ret a, Q => Q a
  | .ask i j k, Q => i < n /\ j < n /\ Ev lt n (k (lt i j)) Q
structure Tot (lt : Nat -> Nat -> Bool) (n : Nat) : Prop where
  tr : ∀ a b c, lt b a = false -> lt c b = false -> lt c a = false
  sm : ∀ a b, lt a b = true -> lt b a = false
  tt : ∀ a b, a < n -> b < n -> a ≠ b -> lt a b = false -> lt b a = true
noncomputable def Pm (p : Array Nat) (n : Nat) : Prop := p.Perm (List.range n).toArray
section
variable {lt : Nat -> Nat -> Bool} {n : Nat}
end
end
section
variable {prog : Program} {w : World} {A : Around} {E : Value -> Shared -> Prop} {s : Shared}
end
section
variable {X : Cx}
end
end L2
namespace L2
open PySem PySem.Spec PyProof.Rows
section
variable {X : Cx} {tg : Expr}
end
section
variable {X : Cx} {tg : Expr}
end
end L2
namespace L2
open PySem PySem.Spec PyProof.Rows PySem.MeetsSeq PySem.SeqAt
section
variable {X : Cx}
end
end L2
namespace L2
open PySem PySem.Spec PyProof.Rows
noncomputable abbrev IsZipF (h : Heap) (z TI TO : Addr) (f0 : Value) (f : Bool) : Prop :=
  h.get? z = some { cls := .type "zip", dict := none, data := .fields #[f0, .bool f, .bool false, .ref TI, .ref TO], slots := #[] }
noncomputable def ZSt (h : Heap) (z TI TO : Addr) : Prop := ∃ f0 f, IsZipF h z TI TO f0 f /\ (f0 = .none \/ ∃ a : Nat, f0 = rawInt a)
section
variable {prog : Program} {w : World} {A : Around} {E : Value -> Shared -> Prop} {s : Shared}
variable {z TI TO i1 i2 : Addr} {f1 f2 : List Addr} {n1 n2 i : Nat} {P1 P2 : Nat -> Value -> Prop} {S1 S2 : Nat -> Heap -> Prop} {a b : Value}
end
section
variable {X : Cx} {nx : Str} {pos' : Pos} {a b : Expr} {ta : TA} {p pos : Pos}
end
end L2
namespace L2
open PySem PySem.Spec PyProof.Rows HT
section
variable {prog : Program} {w : World} {A : Around} {E : Value -> Shared -> Prop} {s : Shared}
theorem getItem_tuple_all {t sl : Addr} {items : Array Value} {vl vu : Value} {lo hi : Option Int} {Q : Value -> Shared -> Prop} (ht : IsTup s.heap t items) (hs : s.heap.IsSliceOf sl vl vu .none) (pl : IsPart vl lo) (pu : IsPart vu hi)
    (hw : sIx items.size 0 lo = 0 /\ sIx items.size items.size hi = items.size) (h : Q (.ref t) s) : wpAny (model prog w) A (getItem (.ref t) (.ref sl)) Q E s := by
  obtain ⟨os, hos, hcs, hds⟩ := id hs
  have hTs : s.TypeIs (.ref sl) "slice" := ⟨os, hos, hcs⟩
  unfold getItem
  try with_reducible refine wpAny_holding ?_
  first | refine wpAny_bind (wpAny_pure ?_) | skip
  refine wpAny_bind (wpAny_sequenceKey ht.typeIs (by decide) ?_)
  refine wpAny_bind (wpAny_callSpecial?_slot (name := Str.ofString "__getitem__") ht.typeIs PyProof.Rows.slot_tuple_getitem
    (wpAny_call_entry PyProof.Rows.slot_tuple_getitem ht.typeIs entry_tuple_getitem ?_ (args_tuple_getitem _ _)))
  show wpAny _ _ (Builtin.Tuple.tupleItemsOf (.ref t) >>= _) _ _ s
  refine wpAny_bind (tupleItemsOf_ ht ?_)
  refine wpAny_bind (wpAny_typeOf hTs ?_)
  rw [if_pos (by decide)]
  refine wpAny_bind (sliceApplied_gen hs pl pu ?_)
  show wpAny _ _ (if (((sIx items.size 0 lo : Nat) : Int) == 0 && (1 : Int) == 1 && (sIx items.size items.size hi - sIx items.size 0 lo) == items.size) = true then _ else _) _ _ s
  rw [if_pos (by rw [hw.1, hw.2]; simp)]
  show wpAny _ _ (Builtin.Tuple.tupleIsExact (.ref t) >>= _) _ _ s
  refine wpAny_bind (m := Builtin.Tuple.tupleIsExact (.ref t)) (wpAny_bind (wpAny_typeOf ht.typeIs (wpAny_pure ?_)))
  show wpAny _ _ (if true = true then _ else _) _ _ s
  rw [if_pos rfl]
  exact wpAny_bind (wpAny_rule (wpAny_pure ⟨_, rfl, wpAny_pure h⟩))
end
section
variable {X : Cx}
noncomputable def rSlA : V -> Option Int -> Option Int -> Hp -> VK -> Prop := fun x lo hi H Q => ∃ a xs, x = .ref a /\ H a = some (.tup xs) /\
  ∀ p H', (∀ c o, H c = some o -> H' c = some o) -> H' p = some (.tup (cutV xs lo hi)) -> Q (.ref p) H'
theorem sl_tupA : SlR X rSlA := by
  intro pins s σ H x v vl vu lo hi sl Q I rx hs pl pu h
  obtain ⟨a, xs, rfl, hx, q⟩ := h
  cases rx
  obtain ⟨its, r, ht, hz⟩ := I.tuple (SqT.of hx)
  have hlen : its.toArray.size = xs.length := by rw [List.size_toArray]; exact r.length.symm
  refine ⟨"tuple", _, PyProof.Rows.slot_tuple_getitem.lookup, ht.typeIs, ?_⟩
  by_cases hw : HT.sIx xs.length 0 lo = 0 /\ HT.sIx xs.length xs.length hi = xs.length
  · refine getItem_tuple_all ht hs pl pu (by rw [hlen]; exact hw) ⟨.ref a, H, I, rfl, q a H (fun _ _ e => e) ?_⟩
    unfold cutV
    rw [hw.1, hw.2, List.drop_zero, Nat.sub_zero, List.take_length]
    exact hx
  refine HT.getItem_tuple_cut ht hs pl pu (by rw [hlen]; exact hw) ?_ (by rw [hlen]; exact hz)
  rw [hlen]
  have n := I.hok.fresh (Nat.le_refl s.heap.objs.size)
  refine ⟨.ref s.heap.objs.size, _, I.laid (t' := s.toks) (o := .tup (cutV xs lo hi)) (fun b ob q => Heap.get?_push_of_some _ q) (Nat.le_refl _) ?_, rfl, q _ _ (fun c o e => ?_) upd_same⟩
  · exact ⟨Nat.le_trans (cutV_length xs lo hi) hz, _, (r.drop (HT.sIx xs.length 0 lo)).take (HT.sIx xs.length xs.length hi - HT.sIx xs.length 0 lo), IsTup.new _ _⟩
  · rw [upd_ne (fun z => by rw [z, n] at e; cases e)]; exact e
end
end L2
namespace L2
open PySem PySem.Spec PyProof.Rows
structure KD (K : PySem.W.Frag) (P : Program) (w : World) (a : Addr) (kvs : List (Key × V)) : Prop where
  sm : (a == sysModules) = false
  ok : ∃ vs ep, KV kvs vs /\ ∀ h : Heap, K.In h -> h.DictAt (mixKind P w) a vs ep
noncomputable def tKGet (K : PySem.W.Frag) (P : Program) (w : World) (td ty : TE) : TE := fun σ H Q => td σ H fun x H1 => ty σ H1 fun y H2 => ∃ a kvs k v, x = .ref a /\ KD K P w a kvs /\ y = kV k /\ valV kvs k = some v /\ Q v H2
noncomputable def tKIn (K : PySem.W.Frag) (P : Program) (w : World) (n : Bool) (ty td : TE) : TE := fun σ H Q => ty σ H fun y H1 => td σ H1 fun x H2 => ∃ a kvs k, x = .ref a /\ KD K P w a kvs /\ y = kV k /\ Q (.bl (n != (valV kvs k).isSome)) H2
noncomputable def iKD (K : PySem.W.Frag) (P : Program) (w : World) (td : TE) : TI := fun σ H R => td σ H fun x H1 => ∃ a kvs, x = .ref a /\ KD K P w a kvs /\ R (Itx (kvs.map fun kv => kV kv.1)) H1
theorem kv_get {kvs : List (Key × V)} {vs : List (Key × Value)} (r : KV kvs vs) : ∀ {i : Nat} {p : Key × V} {q : Key × Value}, kvs[i]? = some p -> vs[i]? = some q -> q.1 = p.1 := by
  unfold KV at r
  induction r with
  | nil => intro i p q h; simp at h
  | @cons a b as bs h t ih =>
    intro i p q h1 h2
    cases i with
    | zero => simp at h1 h2; rw [<- h1, <- h2]; exact h.1.symm
    | succ i => exact ih (by simpa using h1) (by simpa using h2)
section
variable {X : Cx} {o i e value tg : Expr} {pos pos' tpos : Pos} {td ty tv : TE} (K : PySem.W.Frag) (P : Program) (w : World)
theorem pe_kget (hK : X.K = K) (hP : X.prog = P) (hw : X.w = w) (ho : PE X o td) (hi : PE X i ty) (hs : NoSl i) : PE X (.Subscript o i pos) (tKGet K P w td ty) := by
  subst hK hP hw
  intro pins s σ H Q I h
  refine subD_of PySem.F.slot_dict_getitem.lookup hs (thn (ho pins s σ H _ I h) fun u s1 ⟨x, H1, I1, rx, q1⟩ => thn (hi pins s1 σ H1 _ I1 q1) fun iv s2 ⟨y, H2, I2, ry, a, kvs, k, v, ex, g, ek, hv, q2⟩ => ?_)
  subst ex ek
  obtain rfl : u = Value.ref a := rx
  obtain ⟨vs, ep, rel, at_⟩ := g.ok
  have dd := (at_ _ I2.kIn).dictOf
  obtain ⟨w', hw, rw'⟩ := RelO.some_of (v := v) (o := valueAt vs k) (by rw [<- hv]; exact rel.val k)
  exact ⟨dd.typeIs, wpAny_getItem_of (kV_is ry) dd.mapOf hw ⟨v, H2, I2.tok _, rw', q2⟩⟩
theorem pc_kin (hK : X.K = K) (hP : X.prog = P) (hw : X.w = w) (hi : PE X i ty) (ho : PE X o td) : PC X .In i o (tKIn K P w false ty td) := by
  subst hK hP hw
  intro pins s σ H Q I h
  refine thn (hi pins s σ H _ I h) fun iv s1 ⟨y, H1, I1, ry, q1⟩ => thn (ho pins s1 σ H1 _ I1 q1) fun u s2 ⟨x, H2, I2, rx, a, kvs, k, ex, g, ek, q2⟩ => ?_
  subst ex ek
  obtain rfl : u = Value.ref a := rx
  obtain ⟨vs, ep, rel, at_⟩ := g.ok
  have dd := (at_ _ I2.kIn).dictOf
  refine wpAny_in_of (kV_is ry) g.sm dd.mapOf ?_
  rw [<- (rel.val k).isSome_eq]
  exact ⟨.bl (valV kvs k).isSome, H2, I2.tok _, rfl, by simpa using q2⟩
theorem pc_knin (hK : X.K = K) (hP : X.prog = P) (hw : X.w = w) (hi : PE X i ty) (ho : PE X o td) : PC X .NotIn i o (tKIn K P w true ty td) := by
  subst hK hP hw
  intro pins s σ H Q I h
  refine thn (hi pins s σ H _ I h) fun iv s1 ⟨y, H1, I1, ry, q1⟩ => thn (ho pins s1 σ H1 _ I1 q1) fun u s2 ⟨x, H2, I2, rx, a, kvs, k, ex, g, ek, q2⟩ => ?_
  subst ex ek
  obtain rfl : u = Value.ref a := rx
  obtain ⟨vs, ep, rel, at_⟩ := g.ok
  have dd := (at_ _ I2.kIn).dictOf
  refine wpAny_notIn_of (kV_is ry) g.sm dd.mapOf ?_
  rw [<- (rel.val k).isSome_eq]
  exact ⟨.bl (!(valV kvs k).isSome), H2, I2.tok _, rfl, by simpa using q2⟩
theorem turn_kd {a it : Addr} {kvs : List (Key × V)} {vs : List (Key × Value)} {ep : Nat} (rel : KV kvs vs) (at_ : ∀ h : Heap, K.In h -> h.DictAt (mixKind P w) a vs ep) : Turn P w K tg (Itx (kvs.map fun kv => kV kv.1)) [it] it (fun i h => h.IsKeyIter it a i vs.length ep) where
  mem := by simp
  obj := fun i h st b hb => by
    have e : b = it := by simpa using hb
    subst e
    obtain ⟨o, e, c, d⟩ := st
    exact ⟨o, e, fun v z => by rw [d] at z; cases z⟩
  keep := fun i h h' st k => st.at fun o e => k it (by simp) o e
  item := by
    intro X hP hw hK hc i pins s σ H E I hf st hg
    subst hP hw hK
    have hg' : i < kvs.length := by have : i < (kvs.map fun kv => kV kv.1).length := hg; rwa [List.length_map] at this
    have hl : kvs.length = vs.length := Paired.length rel
    have hi2 : i < vs.length := by omega
    obtain ⟨f0, f1, f2, f3, f4, f5⟩ := hf it (by simp)
    refine wpAny_pyNext_dict_item (k := vs[i].1) (v := vs[i].2) st (at_ _ I.kIn) (List.getElem?_eq_getElem hi2) fun key h' hkey st' sb => ?_
    have I1 : Inv X pins σ H { s with heap := h' } := I.turned (t' := s.toks) (fun b o hb e => (sb.2 b hb).trans e) f0 f1 f3 f4 f5
    obtain ⟨o, e, c, d⟩ := id st'
    have hk : vs[i].1 = kvs[i].1 := kv_get rel (List.getElem?_eq_getElem hg') (List.getElem?_eq_getElem hi2)
    refine ⟨key, rfl, go_of (s := { s with heap := h' }) e c d (by decide) ⟨kV kvs[i].1, H, I1, ?_, ⟨rfl, by rw [List.getElem?_map, List.getElem?_eq_getElem hg']; rfl⟩, st', fun b hb => (hf b hb).1⟩⟩
    rw [hk] at hkey
    rcases keyIs_shape hkey with ⟨j, t, e1, e2⟩ | ⟨x, t, e1, e2⟩
    · rw [e1, e2]; exact ⟨t, rfl⟩
    · rw [e1, e2]; exact ⟨t, rfl⟩
  done := by
    intro X hP hw hK hc i pins s σ H E I hf st hg
    subst hP hw hK
    have hg' : kvs.length <= i := by have : (kvs.map fun kv => kV kv.1).length <= i := hg; rwa [List.length_map] at this
    have hl : kvs.length = vs.length := Paired.length rel
    obtain ⟨f0, f1, f2, f3, f4, f5⟩ := hf it (by simp)
    exact wpAny_pyNext_dict_end (I.ok.hd hc) st (at_ _ I.kIn) (List.getElem?_eq_none (by omega)) fun h' eb => ⟨rfl, I.turned (t' := s.toks) (fun b o hb e => eb b o hb e) f0 f1 f3 f4 f5⟩
  self := fun _ _ _ _ _ st h => wpAny_pyIter_keyiter st h
theorem pi_kd {l : Expr} {tl : TE} (hK : X.K = K) (hP : X.prog = P) (hw : X.w = w) (hl : PE X l tl) : PI X tg l (iKD K P w tl) := by
  subst hK hP hw
  intro pins s σ H R I h
  refine thn (hl pins s σ H _ I h) fun v s1 ⟨x, H1, I1, r1, q1⟩ => ?_
  obtain ⟨a, kvs, e, g, q⟩ := q1
  subst e
  cases r1
  obtain ⟨vs, ep, rel, at_⟩ := g.ok
  refine wpAny_pyIter_dict g.sm (at_ _ I1.kIn) ?_
  refine ⟨s1.heap.objs.size, [s1.heap.objs.size], _, _, H1, rfl, I1.kept (t' := s1.toks) fun b o e => Heap.get?_push_of_some _ e, turn_kd X.K X.prog X.w rel at_, ⟨_, Heap.get?_push_size _ rfl, rfl, rfl⟩, fun b hb => ?_, q⟩
  have e : b = s1.heap.objs.size := by simpa using hb
  subst e
  exact I1.fpOk (Nat.le_refl _) (I1.hok.fresh (Nat.le_refl _))
end
end L2
namespace L2
open PySem PySem.Spec PyProof.Rows
theorem subAt_S (l p : List Nat) (i : Nat) : Builtin.Str.subAt (S l) (S p) i = decide ((l.drop i).take p.length = p) := by
  unfold Builtin.Str.subAt
  have e : (S l).cps.extract i (i + (S p).length) = ((l.drop i).take p.length).toArray := by
    rw [S_len]
    apply Array.ext'
    simp [S, List.take_drop]
  rw [e]
  show (((l.drop i).take p.length).toArray == p.toArray) = _
  by_cases h : (l.drop i).take p.length = p
  · rw [decide_eq_true h, h]; simp
  · rw [decide_eq_false h, beq_eq_false_iff_ne]
    exact fun z => h (by have := congrArg Array.toList z; simpa using this)
theorem from_nat {n i : Nat} : fromIndex n (i : Int) = i := by
  unfold fromIndex
  rw [if_neg (by omega)]
  omega
theorem occ_at (l : List Nat) (c i : Nat) (h : i <= l.length) : Builtin.Str.occurrences (S l) (S [c]) i (S l).length 1 = if c ∈ l.drop i then [i + (l.drop i).idxOf c] else [] := by
  rw [StrLaws.occ_eq, occ_first _ _ _ _ i fun j hj => by have := List.mem_range'_1.mp hj; omega]
  have e : (fun i => decide (i + (S [c]).length <= (S l).length) && Builtin.Str.subAt (S l) (S [c]) i) = fun i => decide (i + 1 <= l.length) && (l[i]? == some c) := by
    funext i
    rw [subAt_one, S_len, S_len]
    rfl
  rw [e, S_len, find_idx l c i (l.length + 1 - i) (by omega)]
  by_cases g : c ∈ l.drop i
  · rw [if_pos g, if_pos g]; rfl
  · rw [if_neg g, if_neg g]; rfl
theorem occ_part (a b p : List Nat) (c : Nat) (h : c ∉ a) : Builtin.Str.occurrences (S (a ++ (c :: p) ++ b)) (S (c :: p)) 0 (S (a ++ (c :: p) ++ b)).length 1 = [a.length] := by
  rw [StrLaws.occ_eq, occ_first _ _ _ _ 0 fun _ _ => Nat.zero_le _]
  have hl : (a ++ (c :: p) ++ b).length = a.length + (p.length + 1) + b.length := by simp; omega
  have no : ∀ i, i < a.length -> (decide (i + (S (c :: p)).length <= (S (a ++ (c :: p) ++ b)).length) && Builtin.Str.subAt (S (a ++ (c :: p) ++ b)) (S (c :: p)) i) = false := fun i hi => by
    refine Bool.and_eq_false_iff.mpr (.inr ?_)
    rw [subAt_S]
    refine decide_eq_false fun z => ?_
    rw [List.append_assoc, List.drop_append_of_le_length (by omega), List.drop_eq_getElem_cons hi] at z
    have := (List.cons.inj z).1
    exact h (by rw [<- this]; exact List.getElem_mem hi)
  have yes : (decide (a.length + (S (c :: p)).length <= (S (a ++ (c :: p) ++ b)).length) && Builtin.Str.subAt (S (a ++ (c :: p) ++ b)) (S (c :: p)) a.length) = true := by
    rw [subAt_S, S_len, S_len, hl, decide_eq_true (by simp), Bool.true_and]
    refine decide_eq_true ?_
    rw [List.append_assoc, List.drop_append_of_le_length (Nat.le_refl _), List.drop_length, List.nil_append, List.take_append_of_le_length (Nat.le_refl _), List.take_length]
  rw [S_len (a ++ (c :: p) ++ b), hl, Nat.sub_zero]
  have go : ∀ (n k : Nat), k <= a.length -> a.length < k + n -> ((List.range' k n).find? fun i => decide (i + (S (c :: p)).length <= a.length + (p.length + 1) + b.length) && Builtin.Str.subAt (S (a ++ (c :: p) ++ b)) (S (c :: p)) i) = some a.length := by
    intro n
    induction n with
    | zero => intro k h1 h2; omega
    | succ n ih =>
      intro k h1 h2
      rw [List.range'_succ, List.find?_cons]
      rcases Nat.lt_or_eq_of_le h1 with g | g
      · have := no k g
        rw [S_len (a ++ (c :: p) ++ b), hl] at this
        rw [this]
        exact ih (k + 1) (by omega) (by omega)
      · rw [g]
        have := yes
        rw [S_len (a ++ (c :: p) ++ b), hl] at this
        rw [this]
  rw [go _ 0 (Nat.zero_le _) (by omega)]
  rfl
theorem sub_S (l : List Nat) (i j : Nat) : Builtin.Str.strSub (S l) i j = S ((l.drop i).take (j - i)) := by
  unfold Builtin.Str.strSub S
  congr 1
  apply Array.ext'
  simp
section
variable {X : Cx}
noncomputable def rFindF : V -> List V -> Hp -> VK -> Prop := fun x vs H Q => ∃ (l : List Nat) (c i : Nat), x = .str (S l) /\ vs = [.str (S [c]), .int i] /\ i <= l.length /\ Q (.int (if c ∈ l.drop i then ((i + (l.drop i).idxOf c : Nat) : Int) else -1)) H
theorem mt_findF : MtR X "str.find" rFindF := by
  intro pins s σ H x xs v us Q I rx rv h
  obtain ⟨l, c, i, rfl, rfl, hi, q⟩ := h
  obtain ⟨t, rfl⟩ := rx
  obtain ⟨u, u', rfl, ⟨t', rfl⟩, ⟨t2, rfl⟩⟩ := vals2 rv
  refine SC.find3 ⟨.int _, H, I.tok _, ⟨_, rfl⟩, ?_⟩
  have e : Txt.find3 (S l) (S [c]) (i : Int) = (if c ∈ l.drop i then ((i + (l.drop i).idxOf c : Nat) : Int) else -1) := by
    unfold Txt.find3
    rw [from_nat, occ_at l c i hi]
    by_cases g : c ∈ l.drop i
    · rw [if_pos g, if_pos g]
    · rw [if_neg g, if_neg g]
  rw [e]
  exact q
noncomputable def rStartF : V -> List V -> Hp -> VK -> Prop := fun x vs H Q => ∃ (l p : List Nat) (i : Nat), x = .str (S l) /\ vs = [.str (S p), .int i] /\ Q (.bl (decide (i + p.length <= l.length) && decide ((l.drop i).take p.length = p))) H
theorem mt_startF : MtR X "str.startswith" rStartF := by
  intro pins s σ H x xs v us Q I rx rv h
  obtain ⟨l, p, i, rfl, rfl, q⟩ := h
  obtain ⟨t, rfl⟩ := rx
  obtain ⟨u, u', rfl, ⟨t', rfl⟩, ⟨t2, rfl⟩⟩ := vals2 rv
  refine SC.startswith3 ⟨.bl _, H, I, rfl, ?_⟩
  unfold Txt.startswith3
  rw [from_nat, subAt_S, S_len, S_len]
  exact q
noncomputable def rPartF : V -> List V -> Hp -> VK -> Prop := fun x vs H Q => ∃ (a b p : List Nat) (c : Nat), x = .str (S (a ++ (c :: p) ++ b)) /\ vs = [.str (S (c :: p))] /\ c ∉ a /\ (a ++ (c :: p) ++ b).length <= 1000000 /\ ∀ T, H T = none -> Q (.ref T) (upd H T (.tup [.str (S a), .str (S (c :: p)), .str (S b)]))
theorem mt_partF : MtR X "str.partition" rPartF := by
  intro pins s σ H x xs v us Q I rx rv h
  obtain ⟨a, b, p, c, rfl, rfl, hc, hz, q⟩ := h
  obtain ⟨t, rfl⟩ := rx
  obtain ⟨u, rfl, tu, rfl⟩ := vals1 rv
  have hxs : (S (a ++ (c :: p) ++ b)).length <= sizeLine := by rw [S_len]; exact Nat.le_trans hz (by decide)
  refine call_meets F.slot_str_partition (typeIs_str _ _ _) F.entry_str_partition (F.args_str_partition_2 _ _) (meets_str_partition _ _ t tu (by rw [S_len]; rfl) hxs) ?_
  rw [occ_part a b p c hc]
  have hf : H s.heap.objs.size = none := I.hok.fresh (Nat.le_refl _)
  refine ⟨.ref s.heap.objs.size, _, I.laid (o := .tup [.str (S a), .str (S (c :: p)), .str (S b)]) (t' := s.toks + 1 + 1) (fun b u e => Heap.get?_push_of_some _ e) (Nat.le_refl _) ?_, rfl, q _ hf⟩
  have e1 : Builtin.Str.strSub (S (a ++ (c :: p) ++ b)) 0 a.length = S a := by
    rw [sub_S, List.drop_zero, Nat.sub_zero, List.append_assoc, List.take_append_of_le_length (Nat.le_refl _), List.take_length]
  have e2 : Builtin.Str.strSub (S (a ++ (c :: p) ++ b)) (a.length + (S (c :: p)).length) (S (a ++ (c :: p) ++ b)).length = S b := by
    rw [sub_S, S_len, S_len]
    congr 1
    have hd : (a ++ (c :: p) ++ b).drop (a.length + (c :: p).length) = b := by
      rw [<- List.length_append, List.drop_append_of_le_length (Nat.le_refl _), List.drop_length, List.nil_append]
    rw [hd, List.take_of_length_le]
    simp only [List.length_append]
    omega
  rw [e1, e2]
  exact ⟨by show 3 <= sizeLine; decide, _, .cons ⟨_, rfl⟩ (.cons ⟨_, rfl⟩ (.cons ⟨_, rfl⟩ .nil)), _, Heap.get?_push_size _ rfl, rfl, _, rfl⟩
end
end L2
namespace L2
open PySem PySem.Spec PyProof.Rows
section
variable {X : Cx}
noncomputable def rStrU : List V -> Hp -> VK -> Prop := fun xs H Q => (∃ n : Nat, xs = [.int n] /\ n < 2 ^ 60 /\ Q (.str (S (dg n))) H) \/ ∃ l, xs = [.str (S l)] /\ Q (.str (S l)) H
theorem call_strU : CallR X (.type "str") rStrU := by
  intro pins s σ H xs us Q I r h
  rcases h with h | ⟨l, rfl, q⟩
  · exact call_strN pins s σ H xs us Q I r h
  · obtain ⟨u, rfl, t, rfl⟩ := vals1 r
    exact PySem.P.str_of_str ⟨.str (S l), H, I, ⟨t, rfl⟩, q⟩
theorem dig_all : ∀ c, c < 58 -> 48 <= c -> PySem.intText? ⟨#[c]⟩ = some ((c - 48 : Nat) : Int) := by decide +kernel
noncomputable def rIntC : List V -> Hp -> VK -> Prop := fun xs H Q => ∃ c, xs = [.str (S [c])] /\ 48 <= c /\ c < 58 /\ Q (.int ((c - 48 : Nat) : Int)) H
theorem call_intC : CallR X (.type "int") rIntC := by
  intro pins s σ H xs us Q I r h
  obtain ⟨c, rfl, h1, h2, q⟩ := h
  obtain ⟨u, rfl, t, rfl⟩ := vals1 r
  exact PySem.W.KIN.call_text (dig_all c h2 h1) (by rw [S_len]; show 1 <= 640; decide) ⟨.int _, H, I.tok _, ⟨_, rfl⟩, q⟩
end
end L2
namespace L2
open PySem PySem.Spec PyProof.Rows
noncomputable def KEL (w : World) : List (Key × V) -> List DictEntry -> Prop
  | [], [] => True
  | (k, v) :: r, e :: es => (∃ x t, k = Sum.inr x /\ e.key = .str x t /\ e.hash = PyData.keyHash w.params x) /\ RelV v e.val /\ KEL w r es
  | _, _ => False
noncomputable def KE (kvs : List (Key × V)) (w : World) (es : Array DictEntry) : Prop := KEL w kvs es.toList
theorem KEL.vs {P : Program} {w : World} : ∀ {kvs : List (Key × V)} {es : List DictEntry}, KEL w kvs es -> ∃ vs, KV kvs vs /\ Pairs (mixKind P w) es vs /\ vs.map (·.1) = kvs.map (·.1) /\ ∀ e ∈ es, ∃ k, keyIs k e.key = true /\ e.hash = keyH w k
  | [], [], _ => ⟨[], .nil, .nil, rfl, fun _ h => absurd h List.not_mem_nil⟩
  | (k, v) :: r, e :: es, ⟨⟨x, t, h1, h2, h3⟩, h4, h5⟩ => by
    obtain ⟨vs, a, b, c, d⟩ := KEL.vs (P := P) h5
    subst h1
    have hk : keyIs (Sum.inr x) e.key = true := by rw [h2]; exact keyIs_str x t
    refine ⟨(Sum.inr x, e.val) :: vs, .cons ⟨rfl, h4⟩ a, .cons hk rfl b, by rw [List.map_cons, List.map_cons, c], fun e' he => ?_⟩
    rcases List.mem_cons.mp he with g | g
    · rw [g]; exact ⟨Sum.inr x, hk, h3⟩
    · exact d e' g
theorem KE.kd {K : PySem.W.Frag} {P : Program} {w : World} {a : Addr} {es : Array DictEntry} {ep : Nat} {kvs : List (Key × V)} (hl : K.lookup a = some ⟨.type "dict", none, .dict es ep, #[]⟩) (he : KE kvs w es) (hs : (a == sysModules) = false) (hn : (kvs.map (·.1)).Nodup) : KD K P w a kvs := by
  obtain ⟨vs, x, b, c, d⟩ := KEL.vs (P := P) he
  exact ⟨hs, vs, ep, x, fun h KI => ⟨_, es, KI _ _ hl, ⟨rfl, rfl, rfl⟩, rfl, fun e he => d e (by simpa using he), b, by rw [c]; exact hn⟩⟩
theorem S_lit {s : String} {l : List Nat} (h : (Str.ofString s).cps.toList = l) : Str.ofString s = S l := by
  unfold S
  rw [<- h]
theorem ke_int {i : Int} {t : Tok} : RelV (.int i) (.int i t) := ⟨t, rfl⟩
theorem ke_str {x : Str} {l : List Nat} {t : Tok} (h : x = S l) : RelV (.str (S l)) (.str x t) := ⟨t, by rw [h]⟩
theorem ke_key {w : World} {x : Str} {l : List Nat} {t : Tok} {v : Value} (h : x = S l) : ∃ y t', (Sum.inr (S l) : Key) = Sum.inr y /\ (DictEntry.mk (PyData.keyHash w.params x) (.str x t) v).key = .str y t' /\ (DictEntry.mk (PyData.keyHash w.params x) (.str x t) v).hash = PyData.keyHash w.params y := ⟨x, t, by rw [h], rfl, rfl⟩
end L2
namespace L2
open PySem PySem.Spec PyProof.Rows
noncomputable def iSeq (K : PySem.W.Frag) (tl : TE) : TI := fun σ H R => tl σ H fun x H1 => ∃ a xs, x = .ref a /\ ((SqL K H1 a xs /\ R (Itl K a) H1) \/ (SqT K H1 a xs /\ R (Itt K a) H1))
section
variable {X : Cx} {tg : Expr}
noncomputable def rIsBU : List V -> Hp -> VK -> Prop := fun xs H Q => ∃ x, xs = [x, .ty "bool"] /\ ((∃ i, x = .int i) \/ ∃ z, x = .str z) /\ Q (.bl false) H
theorem call_isBU : CallR X (.builtin "isinstance") rIsBU := by
  intro pins s σ H xs us Q I r h
  obtain ⟨x, rfl, h, q⟩ := h
  obtain ⟨u, w', rfl, r1, r2⟩ := vals2 r
  cases (show w' = Value.type "bool" from r2)
  rcases h with ⟨i, rfl⟩ | ⟨z, rfl⟩
  · exact isinst_ok I r1 (.int i) (b := false) (by unfold PySem.W.kitOne; rw [if_neg (by decide)]; rfl) fun tk => ⟨.bl false, H, I.tok _, rfl, q⟩
  · exact isinst_ok I r1 (.str z) (b := false) (by unfold PySem.W.kitOne; rw [if_neg (by decide)]; rfl) fun tk => ⟨.bl false, H, I.tok _, rfl, q⟩
theorem pi_seqU (K : PySem.W.Frag) (hK : X.K = K) {l : Expr} {tl : TE} (hl : PE X l tl) : PI X tg l (iSeq K tl) := by
  subst hK
  intro pins s σ H R I h
  refine thn (hl pins s σ H _ I h) fun v s1 ⟨x, H1, I1, r1, q1⟩ => ?_
  obtain ⟨a, xs, e, q⟩ := q1
  subst e
  cases r1
  rcases q with ⟨hq, q⟩ | ⟨hq, q⟩
  · obtain ⟨its, rv, p, hz⟩ := I1.list hq
    refine wpAny_pyIter_list p.isList ?_
    refine ⟨s1.heap.objs.size, [s1.heap.objs.size], _, _, H1, rfl, I1.kept (t' := s1.toks) fun b o e => Heap.get?_push_of_some _ e, turn_list a _, ⟨_, Heap.get?_push_size _ rfl, rfl, rfl⟩, fun b hb => ?_, q⟩
    have e : b = s1.heap.objs.size := by simpa using hb
    subst e
    exact I1.fpOk (Nat.le_refl _) (I1.hok.fresh (Nat.le_refl _))
  · obtain ⟨its, rv, p, hz⟩ := I1.tuple hq
    refine wpAny_pyIter_tuple (show s1.heap.IsTuple a its.toArray from p) ?_
    refine ⟨s1.heap.objs.size, [s1.heap.objs.size], _, _, H1, rfl, I1.kept (t' := s1.toks) fun b o e => Heap.get?_push_of_some _ e, turn_tuple a _, ⟨_, Heap.get?_push_size _ rfl, rfl, rfl⟩, fun b hb => ?_, q⟩
    have e : b = s1.heap.objs.size := by simpa using hb
    subst e
    exact I1.fpOk (Nat.le_refl _) (I1.hok.fresh (Nat.le_refl _))
end
end L2
set_option maxHeartbeats 4000000
namespace My
open PySem PySem.Spec PyProof.Rows L2 XL
noncomputable def smalls : List Nat := [97, 98, 99, 100, 101, 102, 103, 104, 105, 106, 107, 108, 109, 110, 111, 112, 113, 114, 115, 116, 117, 118, 119, 120, 121, 122]
noncomputable def caps : List Nat := [65, 66, 67, 68, 69, 70, 71, 72, 73, 74, 75, 76, 77, 78, 79, 80, 81, 82, 83, 84, 85, 86, 87, 88, 89, 90]
noncomputable def Lt (c : Nat) : Prop := c ∈ smalls \/ c ∈ caps
noncomputable instance (c : Nat) : Decidable (Lt c) := by unfold Lt; infer_instance
noncomputable def ctr (c : Nat) : Nat := if isLow c = true then PyProof.Rows.up1 c else PyProof.Rows.lo1 c
theorem lt_all : ∀ c ∈ smalls ++ caps, c < 128 /\ ctr c ∈ smalls ++ caps /\ ctr (ctr c) = c /\ ctr c ≠ c := by decide +kernel
theorem Lt.mem {c : Nat} (h : Lt c) : c ∈ smalls ++ caps := List.mem_append.mpr h
theorem Lt.lt {c : Nat} (h : Lt c) : c < 128 := (lt_all c h.mem).1
noncomputable def SameB (b : Addr) (H H' : Hp) : Prop := ∀ c o, H c = some o -> c ≠ b -> H' c = some o
theorem SameB.trans {b : Addr} {H H1 H2 : Hp} (x : SameB b H H1) (y : SameB b H1 H2) : SameB b H H2 := fun c o h n => y c o (x c o h n) n
theorem SameB.of {b : Addr} {H H' : Hp} (x : Same H H') : SameB b H H' := fun c o h _ => x c o h
theorem SameB.upd (b : Addr) (H : Hp) (o : HO) : SameB b H (upd H b o) := fun c o h n => by rw [upd_ne n]; exact h
theorem Same.upd {H : Hp} {p : Addr} {o : HO} (h : H p = none) : Same H (L2.upd H p o) := fun c u e => by rw [upd_ne (ne_of_none e h)]; exact e
noncomputable def BoxAt (H : Hp) (b : Addr) : Prop := ∃ x y : Int, H b = some (.lst [.int x, .int y])
theorem BoxAt.same {H H' : Hp} {b : Addr} (h : BoxAt H b) (s : Same H H') : BoxAt H' b := let ⟨x, y, e⟩ := h; ⟨x, y, s _ _ e⟩
structure Yd (y : List Nat) : Prop where
  nd : y.Nodup
  lt : ∀ c ∈ y, Lt c
  cl : ∀ c ∈ y, ctr c ∈ y
noncomputable def sp_Lbox (K : PySem.W.Frag) : Sp := fun vs H Q _ => ∃ (a : Addr) (ns : List Int) (k : Nat), vs = [.ref a, .int k] /\ SqL K H a (ns.map V.int) /\ k <= 1000 /\ ∀ b H', H b = none -> BoxAt H' b -> Same H H' -> Q (.ref b) H'
theorem len_Lbox {K : PySem.W.Frag} {vs : List V} {H : Hp} {Q : VK} {E : XK} (h : sp_Lbox K vs H Q E) : vs.length = 2 := by obtain ⟨a, ns, k, rfl, _⟩ := h; rfl
noncomputable def sp_Ltake (_ : PySem.W.Frag) : Sp := fun vs H Q _ => ∃ (b : Addr) (m : Int), vs = [.ref b, .int m] /\ BoxAt H b /\ 1 <= m /\ m < 1000000 /\ ∀ (r : Nat) H', (r : Int) < m -> BoxAt H' b -> SameB b H H' -> Q (.int r) H'
theorem len_Ltake {K : PySem.W.Frag} {vs : List V} {H : Hp} {Q : VK} {E : XK} (h : sp_Ltake K vs H Q E) : vs.length = 2 := by obtain ⟨b, m, rfl, _⟩ := h; rfl
noncomputable def sp_law (K : PySem.W.Frag) : Sp := fun vs H Q _ => ∃ (a : Addr) (ns : List Int), vs = [.ref a] /\ SqL K H a (ns.map V.int) /\ ns.length <= 63 /\ ∀ H', Q (.bl true) H'
theorem len_law {K : PySem.W.Frag} {vs : List V} {H : Hp} {Q : VK} {E : XK} (h : sp_law K vs H Q E) : vs.length = 1 := by obtain ⟨b, m, rfl, _⟩ := h; rfl
theorem flat1 : ∀ l : List Nat, (l.map fun c => [c]).flatten = l
  | [] => rfl
  | c :: l => by rw [List.map_cons, List.flatten_cons, flat1 l]; rfl
theorem sum1 : ∀ l : List Nat, ((l.map fun c => [c]).map List.length).sum = l.length
  | [] => rfl
  | c :: l => by
    rw [List.map_cons, List.map_cons, List.sum_cons, sum1 l]
    show 1 + l.length = l.length + 1
    omega
theorem sgs_lists (l : List Nat) : sgs l = (l.map fun c => [c]).map fun l => V.str (S l) := by unfold sgs; rw [List.map_map]; rfl
theorem sgs_snoc (l : List Nat) (c : Nat) : sgs l ++ [V.str (S [c])] = sgs (l ++ [c]) := by unfold sgs; rw [List.map_append]; rfl
theorem take_snoc {α : Type} {l : List α} {i : Nat} {x : α} (h : l[i]? = some x) : l.take i ++ [x] = l.take (i + 1) := by rw [List.take_add_one, h]; rfl
theorem ints_at {ns : List Int} {i : Nat} (h : i < ns.length) : ∃ z, (ns.map V.int)[i]? = some (V.int z) := ⟨ns[i], by rw [List.getElem?_map, List.getElem?_eq_getElem h]; rfl⟩
theorem yes_ite {σ : L2.St} {H : Hp} {A B : Hp -> Prop} (h : A H) : tYes σ H fun b H3 => if b = true then A H3 else B H3 := by
  show (if true = true then A H else B H)
  rw [if_pos rfl]
  exact h
theorem box_at (b : Bool) (z : Int) : ∃ y, atI [V.int 0, V.int z] (if b = true then 1 else 0) = some (V.int y) := by
  cases b
  · exact ⟨0, rfl⟩
  · exact ⟨z, rfl⟩
structure YdW (i : Nat) (L E : List Nat) : Prop where
  yd : Yd E
  nd : L.Nodup
  sm : ∀ c ∈ L, c ∈ smalls
  ap : ∀ c ∈ L, c ∉ E
  ll : L.length = 26 - i
  el : E.length = 2 * i
theorem SameB.updN {b p : Addr} {H H' : Hp} {o : HO} (h : SameB b H H') (n : H p = none) : SameB b H (L2.upd H' p o) := fun c u e z => by rw [upd_ne (ne_of_none e n)]; exact h c u e z
theorem BoxAt.updN {b p : Addr} {H : Hp} {o : HO} (h : BoxAt H b) (n : p ≠ b) : BoxAt (L2.upd H p o) b := let ⟨x, y, e⟩ := h; ⟨x, y, by rw [upd_ne (Ne.symm n)]; exact e⟩
theorem SameB.none {b p : Addr} {H H' : Hp} (h : SameB b H H') (n : H' p = none) (z : p ≠ b) : H p = none := by
  cases q : H p with
  | none => rfl
  | some o => rw [h p o q z] at n; cases n
theorem BoxAt.ne {b p : Addr} {H : Hp} (h : BoxAt H b) (n : H p = none) : p ≠ b := fun z => by obtain ⟨x, y, e⟩ := h; rw [<- z, n] at e; cases e
theorem iteN {c : Bool} {A B : Prop} (h : c = false) (hB : B) : if c = true then A else B := by rw [h]; exact iteF hB
theorem iteY {c : Bool} {A B : Prop} (h : c = true) (hA : A) : if c = true then A else B := by rw [h]; exact iteT hA
theorem SameB.same {b : Addr} {H H2 H3 : Hp} (n : H b = Option.none) (s : Same H H2) (t : SameB b H2 H3) : Same H H3 := fun c o e => t c o (s c o e) (ne_of_none e n)
theorem SameB.after {p : Addr} {H H1 H2 : Hp} (s : SameB p H H1) (t : Same H1 H2) : SameB p H H2 := fun c o e z => t c o (s c o e z)
noncomputable def txs (ws : List (List Nat)) : List V := ws.map fun l => V.str (S l)
theorem txs_len (ws : List (List Nat)) : (txs ws).length = ws.length := by unfold txs; rw [List.length_map]
theorem txs_snoc (ws : List (List Nat)) (l : List Nat) : txs ws ++ [V.str (S l)] = txs (ws ++ [l]) := by unfold txs; rw [List.map_append]; rfl
noncomputable def Rdd : List Nat -> Prop
  | [] => True
  | [_] => True
  | a :: b :: r => a ≠ ctr b /\ Rdd (b :: r)
noncomputable def strip : Nat -> List Nat -> List Nat
  | 0, l => l
  | n + 1, l => match l with
    | [] => []
    | [a] => [a]
    | a :: b :: r => if a = ctr ((b :: r).getLast (by simp)) then strip n (b :: r).dropLast else a :: b :: r
noncomputable def core (l : List Nat) : List Nat := strip l.length l
theorem cut_to {α : Type} (l : List α) (k : Nat) : cut l none (some (k : Int)) = l.take k := by
  unfold cut
  rw [HT.sIx_none, HT.sIx_nat, List.drop_zero, Nat.sub_zero]
  by_cases h : k <= l.length
  · rw [Nat.min_eq_left h]
  · rw [Nat.min_eq_right (by omega), List.take_of_length_le (Nat.le_refl _), List.take_of_length_le (by omega)]
theorem cut_from {α : Type} (l : List α) (k : Nat) : cut l (some (k : Int)) none = l.drop k := by
  unfold cut
  rw [HT.sIx_none, HT.sIx_nat]
  by_cases h : k <= l.length
  · rw [Nat.min_eq_left h, List.take_of_length_le (by rw [List.length_drop]; exact Nat.le_refl _)]
  · rw [Nat.min_eq_right (by omega), List.drop_of_length_le (Nat.le_refl _), List.drop_of_length_le (by omega)]
    simp
noncomputable def tds (ws : List (List Nat)) : List PyData := ws.map fun l => PyData.str (S l)
theorem rdds_txs {K : PySem.W.Frag} {H : Hp} : ∀ ws : List (List Nat), RdDs K H (txs ws) (tds ws)
  | [] => .nil
  | w :: ws => .cons (.str _) (rdds_txs ws)
theorem str_ok {l : List Nat} (h : ∀ c ∈ l, c < 128) : PyData.strOk (S l) = true := by
  unfold PyData.strOk
  rw [Array.all_eq_true_iff_forall_mem]
  intro c hc
  have : c ∈ l := by simpa [S] using hc
  have := h c this
  simp; omega
theorem lay_txs : ∀ {ws : List (List Nat)}, (∀ l ∈ ws, ∀ c ∈ l, c < 128) -> PyData.canLayAll0 (tds ws) = true
  | [], _ => rfl
  | w :: ws, h => by
    show (PyData.strOk (S w) && PyData.canLayAll0 (tds ws)) = true
    rw [str_ok (h w List.mem_cons_self), lay_txs fun l hl => h l (List.mem_cons_of_mem _ hl)]
    rfl
theorem depth_txs : ∀ ws : List (List Nat), PyData.depthAll (tds ws) = 0
  | [] => rfl
  | k :: ks => by show max (PyData.depth (.str _)) (PyData.depthAll (tds ks)) = 0; rw [depth_txs ks]; rfl
mutual
theorem eqv_refl : ∀ d : PyData, d.hasDict = false -> PyData.eqv d d = true
  | .none, _ => rfl
  | .bool b, _ => by simp [PyData.eqv]
  | .int i, _ => by simp [PyData.eqv]
  | .str x, _ => by simp [PyData.eqv]
  | .list xs, h => by show PyData.eqvAll xs xs = true; exact eqvAll_refl xs (by simpa [PyData.hasDict] using h)
  | .tuple xs, h => by show PyData.eqvAll xs xs = true; exact eqvAll_refl xs (by simpa [PyData.hasDict] using h)
  | .dict kvs, h => by simp [PyData.hasDict] at h
theorem eqvAll_refl : ∀ ds : List PyData, PyData.hasDictAll ds = false -> PyData.eqvAll ds ds = true
  | [], _ => rfl
  | d :: ds, h => by
    simp [PyData.hasDictAll] at h
    show (PyData.eqv d d && PyData.eqvAll ds ds) = true
    rw [eqv_refl d h.1, eqvAll_refl ds h.2]
    rfl
end
noncomputable def letters : List Nat := [97, 98, 99, 100, 101, 102, 103, 104, 105, 106, 107, 108, 109, 110, 111, 112, 113, 114, 115, 116, 117, 118, 119, 120, 121, 122, 65, 66, 67, 68, 69, 70, 71, 72, 73, 74, 75, 76, 77, 78, 79, 80, 81, 82, 83, 84, 85, 86, 87, 88, 89, 90]
theorem Lt.letters {c : Nat} (h : Lt c) : c ∈ letters := h.mem
noncomputable def kept (sm : List Nat) (c : Nat) : Bool := decide (PyProof.Rows.lo1 c ∈ sm)
noncomputable def cyc (i j k : Nat) : Prop := (i < j /\ j < k) \/ (j < k /\ k < i) \/ (k < i /\ i < j)
noncomputable instance (i j k : Nat) : Decidable (cyc i j k) := by unfold cyc; infer_instance
noncomputable def sp_is_letter (_ : PySem.W.Frag) : Sp := fun vs H Q _ => ∃ c, vs = [.str (S [c])] /\ Q (.bl (decide (c ∈ letters))) H
theorem len_is_letter {K : PySem.W.Frag} {vs : List V} {H : Hp} {Q : VK} {E : XK} (h : sp_is_letter K vs H Q E) : vs.length = 1 := by obtain ⟨c, rfl, _⟩ := h; rfl
inductive Tm where
  | walk (w : List Nat) | name (s : List Nat) | back (t : Tm) | again (k : Nat) (t : Tm) | thn (a b : Tm) | fr (c : Nat) (a b : Tm)
noncomputable def kWalk : List Nat := [119, 97, 108, 107]
noncomputable def kName : List Nat := [110, 97, 109, 101]
noncomputable def kBack : List Nat := [98, 97, 99, 107]
noncomputable def kAgain : List Nat := [97, 103, 97, 105, 110]
noncomputable def kThen : List Nat := [116, 104, 101, 110]
noncomputable def kFor : List Nat := [102, 111, 114]
noncomputable def TmAt (H : Hp) : Addr -> Tm -> Prop
  | a, .walk w => H a = some (.tup [.str (S kWalk), .str (S w)])
  | a, .name s => H a = some (.tup [.str (S kName), .str (S s)])
  | a, .back t => ∃ b, H a = some (.tup [.str (S kBack), .ref b]) /\ TmAt H b t
  | a, .again k t => ∃ b, H a = some (.tup [.str (S kAgain), .int k, .ref b]) /\ TmAt H b t
  | a, .thn x y => ∃ b c, H a = some (.tup [.str (S kThen), .ref b, .ref c]) /\ TmAt H b x /\ TmAt H c y
  | a, .fr l x y => ∃ b c, H a = some (.tup [.str (S kFor), .str (S [l]), .ref b, .ref c]) /\ TmAt H b x /\ TmAt H c y
theorem TmAt.ts {H H' : Hp} (s : TSame H H') : ∀ {t : Tm} {a : Addr}, TmAt H a t -> TmAt H' a t
  | .walk w, a, h => s _ _ h
  | .name w, a, h => s _ _ h
  | .back t, a, ⟨b, h, g⟩ => ⟨b, s _ _ h, TmAt.ts s g⟩
  | .again k t, a, ⟨b, h, g⟩ => ⟨b, s _ _ h, TmAt.ts s g⟩
  | .thn x y, a, ⟨b, c, h, g1, g2⟩ => ⟨b, c, s _ _ h, TmAt.ts s g1, TmAt.ts s g2⟩
  | .fr l x y, a, ⟨b, c, h, g1, g2⟩ => ⟨b, c, s _ _ h, TmAt.ts s g1, TmAt.ts s g2⟩
theorem TSame.of {H H' : Hp} (s : Same H H') : TSame H H' := fun c xs e => s _ _ e
theorem TmAt.same {H H' : Hp} (s : Same H H') {t : Tm} {a : Addr} (h : TmAt H a t) : TmAt H' a t := h.ts (TSame.of s)
noncomputable def dep : Tm -> Nat
  | .walk _ => 1
  | .name _ => 1
  | .back t => dep t + 1
  | .again _ t => dep t + 1
  | .thn x y => max (dep x) (dep y) + 1
  | .fr _ x y => max (dep x) (dep y) + 1
theorem dep_pos : ∀ t : Tm, 1 <= dep t
  | .walk _ => Nat.le_refl _
  | .name _ => Nat.le_refl _
  | .back t => by show 1 <= dep t + 1; omega
  | .again _ t => by show 1 <= dep t + 1; omega
  | .thn x y => by show 1 <= max (dep x) (dep y) + 1; omega
  | .fr _ x y => by show 1 <= max (dep x) (dep y) + 1; omega
noncomputable def subs : Tm -> List Tm
  | .walk _ => []
  | .name _ => []
  | .back t => [t]
  | .again _ t => [t]
  | .thn x y => [x, y]
  | .fr _ x y => [x, y]
noncomputable def nms : Tm -> List (List Nat)
  | .walk _ => []
  | .name s => [s]
  | .back t => nms t
  | .again _ t => nms t
  | .thn x y => nms x ++ nms y
  | .fr _ x y => nms x ++ nms y
theorem subs_dep {t u : Tm} {n : Nat} (h : dep t <= n + 1) (hu : u ∈ subs t) : dep u <= n := by
  cases t with
  | walk w => cases hu
  | name w => cases hu
  | back t => rw [List.mem_singleton.mp hu]; have : dep t + 1 <= n + 1 := h; omega
  | again k t => rw [List.mem_singleton.mp hu]; have : dep t + 1 <= n + 1 := h; omega
  | thn x y =>
    have : max (dep x) (dep y) + 1 <= n + 1 := h
    rcases List.mem_cons.mp hu with g | g
    · rw [g]; omega
    · rw [List.mem_singleton.mp g]; omega
  | fr l x y =>
    have : max (dep x) (dep y) + 1 <= n + 1 := h
    rcases List.mem_cons.mp hu with g | g
    · rw [g]; omega
    · rw [List.mem_singleton.mp g]; omega
noncomputable def TmsAt (H : Hp) : List Addr -> List Tm -> Prop
  | [], [] => True
  | a :: as, t :: ts => TmAt H a t /\ TmsAt H as ts
  | _, _ => False
theorem TmsAt.ts {H H' : Hp} (s : TSame H H') : ∀ {as : List Addr} {ts : List Tm}, TmsAt H as ts -> TmsAt H' as ts
  | [], [], _ => trivial
  | a :: as, t :: ts, h => ⟨h.1.ts s, TmsAt.ts s h.2⟩
theorem TmsAt.len {H : Hp} : ∀ {as : List Addr} {ts : List Tm}, TmsAt H as ts -> as.length = ts.length
  | [], [], _ => rfl
  | _ :: _, _ :: _, h => congrArg (· + 1) (TmsAt.len h.2)
theorem TmsAt.get {H : Hp} : ∀ {as : List Addr} {ts : List Tm} {i : Nat} {a : Addr}, TmsAt H as ts -> as[i]? = some a -> ∃ t, ts[i]? = some t /\ TmAt H a t
  | [], [], i, a, _, h => by simp at h
  | b :: as, t :: ts, 0, a, g, h => by
    have e : b = a := by simpa using h
    subst e
    exact ⟨t, rfl, g.1⟩
  | b :: as, t :: ts, i + 1, a, g, h => by
    obtain ⟨u, e1, e2⟩ := TmsAt.get (i := i) g.2 (by simpa using h)
    exact ⟨u, by simpa using e1, e2⟩
noncomputable def rfs (as : List Addr) : List V := as.map V.ref
theorem rfs_len (as : List Addr) : (rfs as).length = as.length := by unfold rfs; rw [List.length_map]
theorem rfs_get {as : List Addr} {i : Nat} {x : V} (h : (rfs as)[i]? = some x) : ∃ a, as[i]? = some a /\ x = V.ref a := by
  unfold rfs at h
  rw [List.getElem?_map] at h
  cases e : as[i]? with
  | none => rw [e] at h; cases h
  | some a => rw [e] at h; cases h; exact ⟨a, rfl, rfl⟩
noncomputable def kOf : Tm -> List Nat
  | .walk _ => kWalk
  | .name _ => kName
  | .back _ => kBack
  | .again _ _ => kAgain
  | .thn _ _ => kThen
  | .fr _ _ _ => kFor
inductive Itm (H : Hp) : List V -> List Tm -> Prop
  | nil : Itm H [] []
  | str {z : Str} {xs : List V} {ts : List Tm} : Itm H xs ts -> Itm H (.str z :: xs) ts
  | int {i : Int} {xs : List V} {ts : List Tm} : Itm H xs ts -> Itm H (.int i :: xs) ts
  | tm {b : Addr} {t : Tm} {xs : List V} {ts : List Tm} : TmAt H b t -> Itm H xs ts -> Itm H (.ref b :: xs) (t :: ts)
theorem txs_get {ls : List (List Nat)} {i : Nat} {x : V} (h : (txs ls)[i]? = some x) : ∃ l, ls[i]? = some l /\ x = V.str (S l) := by
  unfold txs at h
  rw [List.getElem?_map] at h
  cases e : ls[i]? with
  | none => rw [e] at h; cases h
  | some l => rw [e] at h; cases h; exact ⟨l, rfl, rfl⟩
structure Rw where
  r : Addr
  a : Addr
  nm : List Nat
  t : Tm
structure RwOk (H : Hp) (k : Rw) : Prop where
  tp : H k.r = some (.tup [.str (S k.nm), .ref k.a])
  tm : TmAt H k.a k.t
  dp : dep k.t <= 7
  nl : ∀ c ∈ k.nm, c < 128
  al : ∀ s ∈ nms k.t, ∀ c ∈ s, c < 128
noncomputable def rwv (ks : List Rw) : List V := ks.map fun k => V.ref k.r
theorem rwv_len (ks : List Rw) : (rwv ks).length = ks.length := by unfold rwv; rw [List.length_map]
theorem rwv_snoc (ks : List Rw) (k : Rw) : rwv ks ++ [V.ref k.r] = rwv (ks ++ [k]) := by unfold rwv; rw [List.map_append]; rfl
theorem rwv_get {ks : List Rw} {i : Nat} {x : V} (h : (rwv ks)[i]? = some x) : ∃ k, ks[i]? = some k /\ x = .ref k.r := by
  unfold rwv at h
  rw [List.getElem?_map] at h
  cases e : ks[i]? with
  | none => rw [e] at h; cases h
  | some k => rw [e] at h; cases h; exact ⟨k, rfl, rfl⟩
structure ProgAt (H : Hp) (p : Addr) (ks : List Rw) : Prop where
  tp : H p = some (.tup (rwv ks))
  rw : ∀ k ∈ ks, RwOk H k
  fw : ks.length <= 8
structure NmOk (s : List Nat) : Prop where
  ne : s ≠ []
  lt : ∀ c ∈ s, c ∈ smalls
  sz : s.length <= 12
noncomputable def sp_Lwalk (_ : PySem.W.Frag) : Sp := fun vs H Q _ => ∃ (b : Addr) (l : List Nat), vs = [.ref b, .str (S l)] /\ BoxAt H b /\ l ≠ [] /\ l.length <= 6 /\ (∀ c ∈ l, Lt c) /\ ∀ (w : List Nat) H', w.length <= 12 -> (∀ c ∈ w, Lt c) -> BoxAt H' b -> SameB b H H' -> Q (.str (S w)) H'
theorem len_Lwalk {K : PySem.W.Frag} {vs : List V} {H : Hp} {Q : VK} {E : XK} (h : sp_Lwalk K vs H Q E) : vs.length = 2 := by obtain ⟨a, _, rfl, _⟩ := h; rfl
theorem inV_tx (a : List Nat) : ∀ ls : List (List Nat), inV (.str (S a)) (txs ls) = decide (a ∈ ls)
  | [] => by simp [inV, txs]
  | l :: ls => by
    have ih := inV_tx a ls
    have e : inV (.str (S a)) (txs (l :: ls)) = (eqV (.str (S l)) (.str (S a)) || inV (.str (S a)) (txs ls)) := rfl
    rw [e, ih]
    have e2 : eqV (.str (S l)) (.str (S a)) = decide (a = l) := by
      show (S l == S a) = _
      by_cases z : a = l
      · subst z; simp
      · rw [decide_eq_false z]
        exact beq_eq_false_iff_ne.mpr fun q => z (by rw [<- S_list l, q, S_list])
    rw [e2]
    by_cases z : a = l
    · subst z; simp
    · simp [z]
theorem txs_flat (ls : List (List Nat)) : (txs ls).all flatV = true := by unfold txs; rw [List.all_map, List.all_eq_true]; intro x _; rfl
theorem up1_lt : ∀ c ∈ smalls, Lt (up1 c) := by decide +kernel
noncomputable def wideL : List Nat := smalls ++ caps
theorem wide_lt : ∀ c ∈ wideL, Lt c := by decide +kernel
theorem SameB.tsB {b : Addr} {H H' : Hp} (h : SameB b H H') (hb : BoxAt H b) : TSame H H' := fun c xs e => h c _ e fun z => by
  obtain ⟨x, y, g⟩ := hb
  rw [<- z, e] at g
  cases g
theorem share {c A B G : Prop} (hA : c -> A) (hB : ¬ c -> B) (hG : (c -> A) -> (¬ c -> B) -> G) : G := hG hA hB
theorem eqv_nil (ls : List (List Nat)) : PyData.eqv (.list (tds ls)) (.list []) = decide (ls = []) := by
  cases ls with
  | nil => rfl
  | cons l ls => rfl
theorem no3 {a b c : Nat} (g1 : ¬ decide ((a : Int) < 2) = true) (g2 : ¬ decide ((b : Int) < 1) = true) (g3 : ¬ decide ((c : Int) < 2) = true) : ¬ (a < 2 \/ b < 1 \/ c < 2) := by
  have h1 : ¬ ((a : Int) < 2) := fun z => g1 (decide_eq_true z)
  have h2 : ¬ ((b : Int) < 1) := fun z => g2 (decide_eq_true z)
  have h3 : ¬ ((c : Int) < 2) := fun z => g3 (decide_eq_true z)
  omega
structure Pg where
  p : Addr
  ks : List Rw
noncomputable def rtl (c : Nat) : Nat := smalls.getD ((smalls.idxOf c + 1) % 26) 0
noncomputable def rtlN : Nat -> Nat -> Nat
  | 0, c => c
  | m + 1, c => rtlN m (rtl c)
theorem rtl_small : ∀ c ∈ smalls, rtl c ∈ smalls /\ smalls[(smalls.idxOf c + 1) % 26]? = some (rtl c) := by decide +kernel
theorem rtl_all : ∀ c ∈ smalls, ∀ d ∈ smalls, ∃ m, m < 26 /\ rtlN m c = d := by decide +kernel
noncomputable def keptW : List (List Nat) := [kThen, kBack, kAgain, kFor]
theorem rtl_end {ns : List (List Nat)} (h : ns.length <= 12) (w : List Nat) {c : Nat} (hc : c ∈ smalls) : ∃ m, rtlN m c :: w ∉ ns ++ keptW := by
  by_cases z : ∃ d, d ∈ smalls /\ d :: w ∉ ns ++ keptW
  · obtain ⟨d, hd, hn⟩ := z
    obtain ⟨m, _, e⟩ := rtl_all c hc d hd
    exact ⟨m, by rw [e]; exact hn⟩
  · exfalso
    have hall : ∀ x ∈ smalls.map (fun d => d :: w), x ∈ ns ++ keptW := fun x hx => by
      obtain ⟨d, hd, rfl⟩ := List.mem_map.mp hx
      by_cases y : d :: w ∈ ns ++ keptW
      · exact y
      · exact absurd ⟨d, hd, y⟩ z
    have nd : (smalls.map (fun d => d :: w)).Nodup := by
      rw [List.nodup_iff_pairwise_ne, List.pairwise_map]
      have : smalls.Nodup := by decide
      exact (List.nodup_iff_pairwise_ne.mp this).imp fun hne e => hne (List.cons.inj e).1
    have := nd.length_le_of_subset hall
    rw [List.length_map, List.length_append] at this
    have e1 : smalls.length = 26 := rfl
    have e2 : keptW.length = 4 := rfl
    omega
noncomputable def kinds : List (List Nat) := [kThen, kBack, kAgain, kFor]
structure NmF (s : List Nat) : Prop where
  ne : s ≠ []
  lt : ∀ c ∈ s, c ∈ smalls
  sz : s.length <= 6
  nk : s ∉ kinds
theorem NmF.l128 {s : List Nat} (h : NmF s) : ∀ c ∈ s, c < 128 := fun c hc => (show Lt c from .inl (h.lt c hc)).lt
noncomputable def TmF : Tm -> Prop
  | .walk w => (∀ c ∈ w, Lt c) /\ w.length <= 500
  | .name s => NmF s
  | .back t => TmF t
  | .again k t => k <= 6 /\ TmF t
  | .thn a b => TmF a /\ TmF b
  | .fr c a b => c ∈ smalls /\ TmF a /\ TmF b
noncomputable def kdT : Tm -> List Nat
  | .walk _ => kWalk
  | .name _ => kName
  | .back _ => kBack
  | .again _ _ => kAgain
  | .thn _ _ => kThen
  | .fr _ _ _ => kFor
noncomputable def txT : Tm -> List Nat
  | .walk w => 39 :: (w ++ [39])
  | .name s => s
  | .back t => (40 :: kBack) ++ (32 :: txT t) ++ [41]
  | .again k t => (40 :: kAgain) ++ [32, 48 + k] ++ (32 :: txT t) ++ [41]
  | .thn a b => (40 :: kThen) ++ ((32 :: txT a) ++ (32 :: txT b)) ++ [41]
  | .fr c a b => (40 :: kFor) ++ [32, c] ++ ((32 :: txT a) ++ (32 :: txT b)) ++ [41]
theorem dg_small : ∀ k, k <= 6 -> dg k = [48 + k] := by decide +kernel
noncomputable def sgx : Tm -> List Nat
  | .again k _ => [32, 48 + k]
  | .fr c _ _ => [32, c]
  | _ => []
noncomputable def tls (ts : List Tm) : List Nat := ts.flatMap fun t => 32 :: txT t
noncomputable def made : Tm -> Prop
  | .walk _ => False
  | .name _ => False
  | _ => True
theorem txT_made : ∀ {t : Tm}, made t -> txT t = (40 :: kdT t) ++ sgx t ++ tls (subs t) ++ [41]
  | .back t, _ => by simp [txT, kdT, sgx, tls, subs]
  | .again k t, _ => by simp [txT, kdT, sgx, tls, subs]
  | .thn a b, _ => by simp [txT, kdT, sgx, tls, subs]
  | .fr c a b, _ => by simp [txT, kdT, sgx, tls, subs]
theorem kd_kinds : ∀ {t : Tm}, made t -> kdT t ∈ kinds
  | .back t, _ => by show kBack ∈ kinds; decide
  | .again k t, _ => by show kAgain ∈ kinds; decide
  | .thn a b, _ => by show kThen ∈ kinds; decide
  | .fr c a b, _ => by show kFor ∈ kinds; decide
theorem subs_F {t u : Tm} (h : TmF t) (hu : u ∈ subs t) : TmF u := by
  cases t with
  | walk w => cases hu
  | name s => cases hu
  | back t => rw [List.mem_singleton.mp hu]; exact h
  | again k t => rw [List.mem_singleton.mp hu]; exact h.2
  | thn a b =>
    rcases List.mem_cons.mp hu with g | g
    · rw [g]; exact h.1
    · rw [List.mem_singleton.mp g]; exact h.2
  | fr c a b =>
    rcases List.mem_cons.mp hu with g | g
    · rw [g]; exact h.2.1
    · rw [List.mem_singleton.mp g]; exact h.2.2
theorem subs_len : ∀ t : Tm, (subs t).length <= 2
  | .walk _ => Nat.zero_le _
  | .name _ => Nat.zero_le _
  | .back _ => by show 1 <= 2; decide
  | .again _ _ => by show 1 <= 2; decide
  | .thn _ _ => Nat.le_refl _
  | .fr _ _ _ => Nat.le_refl _
theorem txT_len : ∀ {t : Tm} {n : Nat}, TmF t -> dep t <= n -> (txT t).length + 20 <= 600 * 2 ^ n
  | .walk w, n, h, _ => by
    have : 1 <= 2 ^ n := Nat.one_le_two_pow
    have h2 := h.2
    show (39 :: (w ++ [39])).length + 20 <= _
    simp only [List.length_cons, List.length_append, List.length_nil]
    omega
  | .name s, n, h, _ => by
    have : 1 <= 2 ^ n := Nat.one_le_two_pow
    have h2 := h.sz
    show s.length + 20 <= _
    omega
  | .back t, n, h, hd => by
    have hd' : dep t + 1 <= n := hd
    obtain ⟨m, rfl⟩ : ∃ m, n = m + 1 := ⟨n - 1, by omega⟩
    have a := txT_len (t := t) (n := m) h (by omega)
    have : 1 <= 2 ^ m := Nat.one_le_two_pow
    show ((40 :: kBack) ++ (32 :: txT t) ++ [41]).length + 20 <= _
    simp only [List.length_cons, List.length_append, List.length_nil, kBack, Nat.pow_succ]
    omega
  | .again k t, n, h, hd => by
    have hd' : dep t + 1 <= n := hd
    obtain ⟨m, rfl⟩ : ∃ m, n = m + 1 := ⟨n - 1, by omega⟩
    have a := txT_len (t := t) (n := m) h.2 (by omega)
    have : 1 <= 2 ^ m := Nat.one_le_two_pow
    show ((40 :: kAgain) ++ [32, 48 + k] ++ (32 :: txT t) ++ [41]).length + 20 <= _
    simp only [List.length_cons, List.length_append, List.length_nil, kAgain, Nat.pow_succ]
    omega
  | .thn x y, n, h, hd => by
    have hd' : max (dep x) (dep y) + 1 <= n := hd
    obtain ⟨m, rfl⟩ : ∃ m, n = m + 1 := ⟨n - 1, by omega⟩
    have a := txT_len (t := x) (n := m) h.1 (by omega)
    have b := txT_len (t := y) (n := m) h.2 (by omega)
    show ((40 :: kThen) ++ ((32 :: txT x) ++ (32 :: txT y)) ++ [41]).length + 20 <= _
    simp only [List.length_cons, List.length_append, List.length_nil, kThen, Nat.pow_succ]
    omega
  | .fr c x y, n, h, hd => by
    have hd' : max (dep x) (dep y) + 1 <= n := hd
    obtain ⟨m, rfl⟩ : ∃ m, n = m + 1 := ⟨n - 1, by omega⟩
    have a := txT_len (t := x) (n := m) h.2.1 (by omega)
    have b := txT_len (t := y) (n := m) h.2.2 (by omega)
    show ((40 :: kFor) ++ [32, c] ++ ((32 :: txT x) ++ (32 :: txT y)) ++ [41]).length + 20 <= _
    simp only [List.length_cons, List.length_append, List.length_nil, kFor, Nat.pow_succ]
    omega
theorem txT_10 {t : Tm} {n : Nat} (h : TmF t) (hd : dep t <= n) (hn : n <= 10) : (txT t).length <= 614400 := by
  have := txT_len h hd
  have h2 : 2 ^ n <= 2 ^ 10 := Nat.pow_le_pow_right (by decide) hn
  omega
noncomputable def Sep (post : List Nat) : Prop := ∀ c, post[0]? = some c -> c ∉ smalls
noncomputable def isNm (s : List Nat) : Bool := decide (1 <= s.length) && decide (s.length <= 6) && s.all fun c => decide (c ∈ smalls)
noncomputable def isRN (s : List Nat) : Bool := isNm s && decide (s ∉ kinds)
theorem NmF.is {s : List Nat} (h : NmF s) : isRN s = true := by
  unfold isRN isNm
  have h1 : 1 <= s.length := List.length_pos_iff.mpr h.ne
  rw [decide_eq_true h1, decide_eq_true h.sz, decide_eq_true h.nk, List.all_eq_true.mpr fun c hc => decide_eq_true (h.lt c hc)]
  rfl
noncomputable def rowT (r : List Nat × Tm) : List Nat := r.1 ++ [32, 61, 32] ++ txT r.2
structure RwF (H : Hp) (k : Rw) : Prop where
  tp : H k.r = some (.tup [.str (S k.nm), .ref k.a])
  tm : TmAt H k.a k.t
  dp : dep k.t <= 7
  nf : NmF k.nm
  tf : TmF k.t
theorem RwF.ts {H H' : Hp} {k : Rw} (h : RwF H k) (s : TSame H H') : RwF H' k := ⟨s _ _ h.tp, h.tm.ts s, h.dp, h.nf, h.tf⟩
noncomputable def rwT (ks : List Rw) : List (List Nat × Tm) := ks.map fun k => (k.nm, k.t)
noncomputable def txP (rs : List (List Nat × Tm)) : List Nat := joinc 10 (rs.map rowT)
structure PgF (H : Hp) (p : Addr) (ks : List Rw) : Prop where
  tp : H p = some (.tup (rwv ks))
  rw : ∀ k ∈ ks, RwF H k
  ne : ks ≠ []
  fw : ks.length <= 40
theorem PgF.ts {H H' : Hp} {p : Addr} {ks : List Rw} (h : PgF H p ks) (s : TSame H H') : PgF H' p ks := ⟨s _ _ h.tp, fun k hk => (h.rw k hk).ts s, h.ne, h.fw⟩
theorem PgF.same {H H' : Hp} {p : Addr} {ks : List Rw} (h : PgF H p ks) (s : Same H H') : PgF H' p ks := h.ts (TSame.of s)
noncomputable def sp_is_name (_ : PySem.W.Frag) : Sp := fun vs H Q _ => ∃ s : List Nat, vs = [.str (S s)] /\ s.length <= 900000 /\ ∀ H', Same H H' -> Q (.bl (isNm s)) H'
theorem len_is_name {K : PySem.W.Frag} {vs : List V} {H : Hp} {Q : VK} {E : XK} (h : sp_is_name K vs H Q E) : vs.length = 1 := by obtain ⟨_, rfl, _⟩ := h; rfl
noncomputable def sp_is_row_name (_ : PySem.W.Frag) : Sp := fun vs H Q _ => ∃ s : List Nat, vs = [.str (S s)] /\ s.length <= 900000 /\ ∀ H', Same H H' -> Q (.bl (isRN s)) H'
theorem len_is_row_name {K : PySem.W.Frag} {vs : List V} {H : Hp} {Q : VK} {E : XK} (h : sp_is_row_name K vs H Q E) : vs.length = 1 := by obtain ⟨_, rfl, _⟩ := h; rfl
noncomputable def sp_term_text (_ : PySem.W.Frag) (n : Nat) : Sp := fun vs H Q _ => ∃ (a : Addr) (t : Tm), vs = [.ref a] /\ TmAt H a t /\ TmF t /\ dep t <= n /\ n <= 10 /\ ∀ H', Same H H' -> Q (.str (S (txT t))) H'
theorem len_term_text {K : PySem.W.Frag} {n : Nat} {vs : List V} {H : Hp} {Q : VK} {E : XK} (h : sp_term_text K n vs H Q E) : vs.length = 1 := by obtain ⟨_, _, rfl, _⟩ := h; rfl
theorem nev_term_text {K : PySem.W.Frag} {vs : List V} {H : Hp} {Q : VK} {E : XK} (h : sp_term_text K 0 vs H Q E) : False := by obtain ⟨_, t, _, _, _, h, _⟩ := h; have := dep_pos t; omega
noncomputable def sp_Ltermtext (_ : PySem.W.Frag) (n : Nat) : Sp := fun vs H Q _ => ∃ (a : Addr) (t : Tm), vs = [.ref a] /\ TmAt H a t /\ TmF t /\ dep t <= n /\ n <= 10 /\ ∀ H', Same H H' -> Q (.str (S (txT t))) H'
theorem len_Ltermtext {K : PySem.W.Frag} {n : Nat} {vs : List V} {H : Hp} {Q : VK} {E : XK} (h : sp_Ltermtext K n vs H Q E) : vs.length = 1 := by obtain ⟨_, _, rfl, _⟩ := h; rfl
theorem nev_Ltermtext {K : PySem.W.Frag} {vs : List V} {H : Hp} {Q : VK} {E : XK} (h : sp_Ltermtext K 0 vs H Q E) : False := by obtain ⟨_, t, _, _, _, h, _⟩ := h; have := dep_pos t; omega
noncomputable def sp_show_program (_ : PySem.W.Frag) : Sp := fun vs H Q _ => ∃ (p : Addr) (ks : List Rw), vs = [.ref p] /\ PgF H p ks /\ ∀ H', Same H H' -> Q (.str (S (txP (rwT ks)))) H'
theorem len_show_program {K : PySem.W.Frag} {vs : List V} {H : Hp} {Q : VK} {E : XK} (h : sp_show_program K vs H Q E) : vs.length = 1 := by obtain ⟨_, _, rfl, _⟩ := h; rfl
noncomputable def sp_Ltext (_ : PySem.W.Frag) : Sp := fun vs H Q _ => ∃ (p : Addr) (ks : List Rw), vs = [.ref p] /\ (H p = some (.tup (rwv ks)) \/ H p = some (.lst (rwv ks))) /\ (∀ k ∈ ks, RwF H k) /\ ks ≠ [] /\ ks.length <= 40 /\ ∀ H', Same H H' -> Q (.str (S (txP (rwT ks)))) H'
theorem len_Ltext {K : PySem.W.Frag} {vs : List V} {H : Hp} {Q : VK} {E : XK} (h : sp_Ltext K vs H Q E) : vs.length = 1 := by obtain ⟨_, _, rfl, _⟩ := h; rfl
noncomputable def Reads (H : Hp) (Q : VK) (t : Tm) (e : Nat) : Prop := ∀ (T a : Addr) (H' : Hp), H' T = some (.tup [.ref a, .int (e : Nat)]) -> TmAt H' a t -> Same H H' -> Q (.ref T) H'
noncomputable def sp_read_walk (_ : PySem.W.Frag) : Sp := fun vs H Q _ => ∃ pre w post : List Nat, vs = [.str (S (pre ++ txT (.walk w) ++ post)), .int (pre.length : Nat)] /\ TmF (.walk w) /\ (pre ++ txT (.walk w) ++ post).length <= 900000 /\ Reads H Q (.walk w) (pre.length + (txT (.walk w)).length)
theorem len_read_walk {K : PySem.W.Frag} {vs : List V} {H : Hp} {Q : VK} {E : XK} (h : sp_read_walk K vs H Q E) : vs.length = 2 := by obtain ⟨_, _, _, rfl, _⟩ := h; rfl
noncomputable def sp_read_name (_ : PySem.W.Frag) : Sp := fun vs H Q _ => ∃ pre s post : List Nat, vs = [.str (S (pre ++ txT (.name s) ++ post)), .int (pre.length : Nat)] /\ NmF s /\ Sep post /\ (pre ++ txT (.name s) ++ post).length <= 900000 /\ Reads H Q (.name s) (pre.length + (txT (.name s)).length)
theorem len_read_name {K : PySem.W.Frag} {vs : List V} {H : Hp} {Q : VK} {E : XK} (h : sp_read_name K vs H Q E) : vs.length = 2 := by obtain ⟨_, _, _, rfl, _⟩ := h; rfl
noncomputable def sp_read_kind (_ : PySem.W.Frag) : Sp := fun vs H Q _ => ∃ pre k post : List Nat, vs = [.str (S (pre ++ ((40 :: k) ++ 32 :: post))), .int (pre.length : Nat)] /\ k ∈ kinds /\ (pre ++ ((40 :: k) ++ 32 :: post)).length <= 900000 /\ ∀ (T : Addr) (H' : Hp), H' T = some (.tup [.str (S k), .int ((pre.length + 1 + k.length : Nat) : Int)]) -> Same H H' -> Q (.ref T) H'
theorem len_read_kind {K : PySem.W.Frag} {vs : List V} {H : Hp} {Q : VK} {E : XK} (h : sp_read_kind K vs H Q E) : vs.length = 2 := by obtain ⟨_, _, _, rfl, _⟩ := h; rfl
noncomputable def sp_read_sign (_ : PySem.W.Frag) : Sp := fun vs H Q _ => ∃ (pre k post : List Nat) (c : Nat) (v : V), vs = [.str (S k), .str (S (pre ++ ([32, c] ++ post))), .int (pre.length : Nat)] /\ (pre ++ ([32, c] ++ post)).length <= 900000 /\ ((k = kAgain /\ 48 <= c /\ c <= 54 /\ v = .int ((c - 48 : Nat) : Int)) \/ (k = kFor /\ c ∈ smalls /\ v = .str (S [c]))) /\ ∀ (T : Addr) (H' : Hp), H' T = some (.tup [v, .int ((pre.length + 2 : Nat) : Int)]) -> Same H H' -> Q (.ref T) H'
theorem len_read_sign {K : PySem.W.Frag} {vs : List V} {H : Hp} {Q : VK} {E : XK} (h : sp_read_sign K vs H Q E) : vs.length = 3 := by obtain ⟨_, _, _, _, _, rfl, _⟩ := h; rfl
noncomputable def sp_read_terms (_ : PySem.W.Frag) (n : Nat) : Sp := fun vs H Q _ => ∃ (pre post : List Nat) (ts : List Tm), vs = [.int (ts.length : Nat), .str (S (pre ++ (tls ts ++ post))), .int (pre.length : Nat)] /\ (∀ t ∈ ts, TmF t /\ dep t <= n) /\ n <= 10 /\ ts.length <= 2 /\ Sep post /\ (pre ++ (tls ts ++ post)).length <= 900000 /\
  ∀ (T l : Addr) (as : List Addr) (H' : Hp), H' T = some (.tup [.ref l, .int ((pre.length + (tls ts).length : Nat) : Int)]) -> H' l = some (.lst (rfs as)) -> TmsAt H' as ts -> Same H H' -> Q (.ref T) H'
theorem len_read_terms {K : PySem.W.Frag} {n : Nat} {vs : List V} {H : Hp} {Q : VK} {E : XK} (h : sp_read_terms K n vs H Q E) : vs.length = 3 := by obtain ⟨_, _, _, rfl, _⟩ := h; rfl
noncomputable def sp_read_made (_ : PySem.W.Frag) (n : Nat) : Sp := fun vs H Q _ => ∃ (pre post : List Nat) (t : Tm), vs = [.str (S (pre ++ txT t ++ post)), .int (pre.length : Nat)] /\ made t /\ TmF t /\ dep t <= n + 1 /\ n <= 10 /\ (pre ++ txT t ++ post).length <= 900000 /\ Reads H Q t (pre.length + (txT t).length)
theorem len_read_made {K : PySem.W.Frag} {n : Nat} {vs : List V} {H : Hp} {Q : VK} {E : XK} (h : sp_read_made K n vs H Q E) : vs.length = 2 := by obtain ⟨_, _, _, rfl, _⟩ := h; rfl
noncomputable def sp_read_term (_ : PySem.W.Frag) (n : Nat) : Sp := fun vs H Q _ => ∃ (pre post : List Nat) (t : Tm), vs = [.str (S (pre ++ txT t ++ post)), .int (pre.length : Nat)] /\ TmF t /\ dep t <= n /\ n <= 10 /\ Sep post /\ (pre ++ txT t ++ post).length <= 900000 /\ Reads H Q t (pre.length + (txT t).length)
theorem len_read_term {K : PySem.W.Frag} {n : Nat} {vs : List V} {H : Hp} {Q : VK} {E : XK} (h : sp_read_term K n vs H Q E) : vs.length = 2 := by obtain ⟨_, _, _, rfl, _⟩ := h; rfl
theorem nev_read_term {K : PySem.W.Frag} {vs : List V} {H : Hp} {Q : VK} {E : XK} (h : sp_read_term K 0 vs H Q E) : False := by obtain ⟨_, _, t, _, _, h, _⟩ := h; have := dep_pos t; omega
noncomputable def sp_read_row (_ : PySem.W.Frag) : Sp := fun vs H Q _ => ∃ (nm : List Nat) (t : Tm), vs = [.str (S (rowT (nm, t)))] /\ NmF nm /\ TmF t /\ dep t <= 7 /\ ∀ (r a : Addr) (H' : Hp), H' r = some (.tup [.str (S nm), .ref a]) -> TmAt H' a t -> Same H H' -> Q (.ref r) H'
theorem len_read_row {K : PySem.W.Frag} {vs : List V} {H : Hp} {Q : VK} {E : XK} (h : sp_read_row K vs H Q E) : vs.length = 1 := by obtain ⟨_, _, rfl, _⟩ := h; rfl
noncomputable def RsF (rs : List (List Nat × Tm)) : Prop := rs ≠ [] /\ rs.length <= 40 /\ ∀ r ∈ rs, NmF r.1 /\ TmF r.2 /\ dep r.2 <= 7
noncomputable def sp_read_program (_ : PySem.W.Frag) : Sp := fun vs H Q _ => ∃ rs : List (List Nat × Tm), vs = [.str (S (txP rs))] /\ RsF rs /\ (txP rs).length <= 900000 /\ ∀ (p : Addr) (ks : List Rw) (H' : Hp), PgF H' p ks -> rwT ks = rs -> Same H H' -> Q (.ref p) H'
theorem len_read_program {K : PySem.W.Frag} {vs : List V} {H : Hp} {Q : VK} {E : XK} (h : sp_read_program K vs H Q E) : vs.length = 1 := by obtain ⟨_, rfl, _⟩ := h; rfl
inductive AlV (H : Hp) : Nat -> V -> V -> Prop
  | int {n : Nat} (i : Int) : AlV H n (.int i) (.int i)
  | str {n : Nat} {l : List Nat} : (∀ c ∈ l, c < 128) -> AlV H n (.str (S l)) (.str (S l))
  | tup {n : Nat} {a b : Addr} {xs ys : List V} : H a = some (.tup xs) -> H b = some (.tup ys) -> xs.length = ys.length -> xs.length <= 40 -> (∀ (i : Nat) (x y : V), xs[i]? = some x -> ys[i]? = some y -> AlV H n x y) -> AlV H (n + 1) (.ref a) (.ref b)
theorem AlV.ts {H H' : Hp} (s : TSame H H') : ∀ {n : Nat} {x y : V}, AlV H n x y -> AlV H' n x y
  | _, _, _, .int i => .int i
  | _, _, _, .str h => .str h
  | _, _, _, .tup h1 h2 h3 h4 h5 => .tup (s _ _ h1) (s _ _ h2) h3 h4 fun i x y e1 e2 => (h5 i x y e1 e2).ts s
noncomputable def sp_Lalike (_ : PySem.W.Frag) (n : Nat) : Sp := fun vs H Q _ => ∃ (x y : V) (m : Nat), vs = [x, y] /\ AlV H m x y /\ m < n /\ n <= 20 /\ ∀ H', Same H H' -> Q (.bl true) H'
theorem len_Lalike {K : PySem.W.Frag} {n : Nat} {vs : List V} {H : Hp} {Q : VK} {E : XK} (h : sp_Lalike K n vs H Q E) : vs.length = 2 := by obtain ⟨_, _, _, rfl, _⟩ := h; rfl
theorem nev_Lalike {K : PySem.W.Frag} {vs : List V} {H : Hp} {Q : VK} {E : XK} (h : sp_Lalike K 0 vs H Q E) : False := by obtain ⟨_, _, _, _, _, h, _⟩ := h; omega
noncomputable def sp_Lnames (_ : PySem.W.Frag) : Sp := fun vs H Q _ => ∃ (b : Addr) (m : Nat), vs = [.ref b, .int m] /\ BoxAt H b /\ m <= 12 /\ ∀ (q : Addr) (ns : List (List Nat)) H', H q = none -> q ≠ b -> H' q = some (.lst (txs ns)) -> ns.length = m -> (∀ s ∈ ns, NmF s) -> BoxAt H' b -> SameB b H H' -> Q (.ref q) H'
theorem len_Lnames {K : PySem.W.Frag} {vs : List V} {H : Hp} {Q : VK} {E : XK} (h : sp_Lnames K vs H Q E) : vs.length = 2 := by obtain ⟨a, t, rfl, _⟩ := h; rfl
noncomputable def sp_Lpool (_ : PySem.W.Frag) : Sp := fun vs H Q _ => ∃ b : Addr, vs = [.ref b] /\ BoxAt H b /\ ∀ (l : List Nat) H', l ≠ [] -> l.length <= 6 -> (∀ c ∈ l, Lt c) -> (∀ c, l[0]? = some c -> c ∈ smalls) -> BoxAt H' b -> SameB b H H' -> Q (.str (S l)) H'
theorem len_Lpool {K : PySem.W.Frag} {vs : List V} {H : Hp} {Q : VK} {E : XK} (h : sp_Lpool K vs H Q E) : vs.length = 1 := by obtain ⟨a, rfl, _⟩ := h; rfl
noncomputable def sp_Lterm (_ : PySem.W.Frag) (n : Nat) : Sp := fun vs H Q _ => ∃ (b kp : Addr) (known : List (List Nat)) (l : List Nat) (room deep : Nat), vs = [.ref b, .ref kp, .str (S l), .int room, .int deep] /\ BoxAt H b /\ kp ≠ b /\ H kp = some (.lst (txs known)) /\ known.length <= 12 /\ (∀ s ∈ known, NmF s) /\ l ≠ [] /\ l.length <= 6 /\ (∀ c ∈ l, Lt c) /\ (∀ c, l[0]? = some c -> c ∈ smalls) /\ room <= 12 /\ deep + 1 <= n /\
  ∀ (a : Addr) (t : Tm) H', TmAt H' a t -> dep t <= deep + 1 -> TmF t -> (∀ s ∈ nms t, s ∈ known) -> BoxAt H' b -> SameB b H H' -> Q (.ref a) H'
theorem len_Lterm {K : PySem.W.Frag} {n : Nat} {vs : List V} {H : Hp} {Q : VK} {E : XK} (h : sp_Lterm K n vs H Q E) : vs.length = 5 := by obtain ⟨_, _, _, _, _, _, rfl, _⟩ := h; rfl
theorem nev_Lterm {K : PySem.W.Frag} {vs : List V} {H : Hp} {Q : VK} {E : XK} (h : sp_Lterm K 0 vs H Q E) : False := by obtain ⟨_, _, _, _, _, deep, _, _, _, _, _, _, _, _, _, _, _, h, _⟩ := h; omega
noncomputable def sp_Lsmallprogram (_ : PySem.W.Frag) : Sp := fun vs H Q _ => ∃ b : Addr, vs = [.ref b] /\ BoxAt H b /\ ∀ (p : Addr) (ks : List Rw) H', PgF H' p ks -> ks.length <= 8 -> BoxAt H' b -> SameB b H H' -> Q (.ref p) H'
theorem len_Lsmallprogram {K : PySem.W.Frag} {vs : List V} {H : Hp} {Q : VK} {E : XK} (h : sp_Lsmallprogram K vs H Q E) : vs.length = 1 := by obtain ⟨_, rfl, _⟩ := h; rfl
noncomputable def sp_Llongright (_ : PySem.W.Frag) : Sp := fun vs H Q _ => ∃ b : Addr, vs = [.ref b] /\ BoxAt H b /\ ∀ H', SameB b H H' -> Q (.bl true) H'
theorem len_Llongright {K : PySem.W.Frag} {vs : List V} {H : Hp} {Q : VK} {E : XK} (h : sp_Llongright K vs H Q E) : vs.length = 1 := by obtain ⟨_, rfl, _⟩ := h; rfl
theorem drop_at {a b : List Nat} {n : Nat} (h : a.length = n) : (a ++ b).drop n = b := by
  rw [<- h, List.drop_append_of_le_length (Nat.le_refl _), List.drop_length, List.nil_append]
theorem no39 : ¬ Lt 39 := fun h => by have := h.mem; revert this; decide
theorem cut_md {α : Type} (l : List α) (i j : Nat) (h : i <= j) : cut l (some (i : Int)) (some (j : Int)) = (l.drop i).take (j - i) := by
  unfold cut
  rw [HT.sIx_nat, HT.sIx_nat]
  by_cases g : i <= l.length
  · rw [Nat.min_eq_left g]
    by_cases k : j <= l.length
    · rw [Nat.min_eq_left k]
    · rw [Nat.min_eq_right (by omega), List.take_of_length_le (by rw [List.length_drop]; omega), List.take_of_length_le (by rw [List.length_drop]; omega)]
  · rw [List.drop_eq_nil_of_le (show l.length <= min i l.length by omega), List.drop_eq_nil_of_le (show l.length <= i by omega), List.take_nil, List.take_nil]
theorem S_ne {a b : List Nat} (h : a ≠ b) : ¬ (Sum.inr (S a) : Key) = Sum.inr (S b) := fun z => h (S_inj (Sum.inr.inj z))
theorem kv_in (l : List Nat) : (valV ([(Sum.inr (S kThen), V.int 2), (Sum.inr (S kBack), V.int 1), (Sum.inr (S kAgain), V.int 1), (Sum.inr (S kFor), V.int 2)] : List (Key × V)) (Sum.inr (S l))).isSome = decide (l ∈ kinds) := by
  by_cases h1 : kThen = l
  · rw [valV_pos (by rw [h1]), decide_eq_true (by rw [<- h1]; decide)]; rfl
  rw [valV_neg (S_ne h1)]
  by_cases h2 : kBack = l
  · rw [valV_pos (by rw [h2]), decide_eq_true (by rw [<- h2]; decide)]; rfl
  rw [valV_neg (S_ne h2)]
  by_cases h3 : kAgain = l
  · rw [valV_pos (by rw [h3]), decide_eq_true (by rw [<- h3]; decide)]; rfl
  rw [valV_neg (S_ne h3)]
  by_cases h4 : kFor = l
  · rw [valV_pos (by rw [h4]), decide_eq_true (by rw [<- h4]; decide)]; rfl
  rw [valV_neg (S_ne h4), valV_nil, decide_eq_false]
  · rfl
  · intro z
    rcases List.mem_cons.mp z with e | z
    · exact h1 e.symm
    rcases List.mem_cons.mp z with e | z
    · exact h2 e.symm
    rcases List.mem_cons.mp z with e | z
    · exact h3 e.symm
    exact h4 (List.mem_singleton.mp z).symm
theorem kind_pre {k kd post : List Nat} (hk : k ∈ kinds) (hkd : kd ∈ kinds) : (((40 :: k) ++ 32 :: post).take ([40] ++ kd ++ [32]).length = [40] ++ kd ++ [32]) ↔ kd = k := by
  simp only [kinds, List.mem_cons, List.not_mem_nil, or_false] at hk hkd
  rcases hk with rfl | rfl | rfl | rfl <;> rcases hkd with rfl | rfl | rfl | rfl <;> simp [kThen, kBack, kAgain, kFor]
theorem start_kind {pre k kd post : List Nat} (hk : k ∈ kinds) (hkd : kd ∈ kinds) : (decide (pre.length + ([40] ++ kd ++ [32]).length <= (pre ++ ((40 :: k) ++ 32 :: post)).length) && decide (((pre ++ ((40 :: k) ++ 32 :: post)).drop pre.length).take ([40] ++ kd ++ [32]).length = [40] ++ kd ++ [32])) = decide (kd = k) := by
  rw [drop_at rfl]
  by_cases e : kd = k
  · rw [decide_eq_true e, decide_eq_true ((kind_pre hk hkd).mpr e), e, decide_eq_true (by simp only [List.length_append, List.length_cons, List.length_nil]; omega)]
    rfl
  · rw [decide_eq_false e, decide_eq_false fun z => e ((kind_pre hk hkd).mp z), Bool.and_false]
theorem idx_app {c : Nat} : ∀ {a b : List Nat}, c ∉ a -> (a ++ c :: b).idxOf c = a.length
  | [], b, _ => by simp
  | x :: a, b, h => by
    have hx : ¬ x = c := fun z => h (by rw [z]; exact List.mem_cons_self)
    have e : (x == c) = false := by simpa using hx
    rw [List.cons_append, List.idxOf_cons, e]
    show (a ++ c :: b).idxOf c + 1 = a.length + 1
    rw [idx_app (fun z => h (List.mem_cons_of_mem _ z))]
theorem all_yes (n : Nat) : (List.replicate n true).all id = true := by induction n with
  | zero => rfl
  | succ n ih => rw [List.replicate_succ, List.all_cons, ih]; rfl
theorem yes_snoc (n : Nat) : (List.replicate n true).map V.bl ++ [V.bl true] = (List.replicate (n + 1) true).map V.bl := by rw [List.replicate_succ', List.map_append]; rfl
theorem dig_in : ∀ {c : Nat}, 48 <= c -> c <= 54 -> c ∈ [48, 49, 50, 51, 52, 53, 54] := fun {c} h1 h2 => by
  have : c = 48 \/ c = 49 \/ c = 50 \/ c = 51 \/ c = 52 \/ c = 53 \/ c = 54 := by omega
  rcases this with rfl | rfl | rfl | rfl | rfl | rfl | rfl <;> decide
theorem start_at {pre rest p : List Nat} : (decide (pre.length + p.length <= (pre ++ rest).length) && decide (((pre ++ rest).drop pre.length).take p.length = p)) = decide (rest.take p.length = p) := by
  rw [drop_at rfl]
  by_cases e : rest.take p.length = p
  · have hl : p.length <= rest.length := by
      have := congrArg List.length e
      rw [List.length_take] at this
      omega
    rw [decide_eq_true e, decide_eq_true (by rw [List.length_append]; omega)]
    rfl
  · rw [decide_eq_false e, Bool.and_false]
theorem tls_cons (t : Tm) (ts : List Tm) : tls (t :: ts) = 32 :: (txT t ++ tls ts) := by simp [tls]
theorem sep32 (l : List Nat) : Sep (32 :: l) := fun c h => by
  have e : 32 = c := by simpa using h
  rw [<- e]; decide
theorem sep41 (l : List Nat) : Sep (41 :: l) := fun c h => by
  have e : 41 = c := by simpa using h
  rw [<- e]; decide
theorem sep0 : Sep [] := fun c h => by simp at h
theorem sep_tls {ts : List Tm} {post : List Nat} (h : Sep post) : Sep (tls ts ++ post) := by
  cases ts with
  | nil => exact h
  | cons t ts => rw [tls_cons]; exact sep32 _
theorem hd_made : ∀ {t : Tm}, made t -> ∃ r, txT t = 40 :: r
  | .back t, _ => ⟨_, rfl⟩
  | .again k t, _ => ⟨_, rfl⟩
  | .thn a b, _ => ⟨_, rfl⟩
  | .fr c a b, _ => ⟨_, rfl⟩
theorem hd_name {s : List Nat} (h : NmF s) : ∃ c r, s = c :: r /\ c ∈ smalls := by
  cases s with
  | nil => exact absurd rfl h.ne
  | cons c r => exact ⟨c, r, rfl, h.lt c List.mem_cons_self⟩
theorem tls_app (a b : List Tm) : tls (a ++ b) = tls a ++ tls b := by unfold tls; rw [List.flatMap_append]
theorem tms_snoc {H : Hp} {a : Addr} {t : Tm} (h : TmAt H a t) : ∀ {as : List Addr} {ts : List Tm}, TmsAt H as ts -> TmsAt H (as ++ [a]) (ts ++ [t])
  | [], [], _ => ⟨h, trivial⟩
  | _ :: _, _ :: _, g => ⟨g.1, tms_snoc h g.2⟩
theorem same_upd {H H' : Hp} {a : Addr} {o : HO} (s : Same H H') (n : H a = none) : Same H (upd H' a o) := fun b u e => by rw [upd_ne (ne_of_none e n)]; exact s b u e
noncomputable def sgV : Tm -> List V
  | .again k _ => [.int k]
  | .fr c _ _ => [.str (S [c])]
  | _ => []
noncomputable def hdV (t : Tm) : List V := .str (S (kdT t)) :: sgV t
theorem tm_of {H : Hp} {a : Addr} : ∀ {t : Tm} {as : List Addr}, made t -> H a = some (.tup (hdV t ++ rfs as)) -> TmsAt H as (subs t) -> TmAt H a t
  | .back t, [b], _, h, g => ⟨b, h, g.1⟩
  | .again k t, [b], _, h, g => ⟨b, h, g.1⟩
  | .thn x y, [b, c], _, h, g => ⟨b, c, h, g.1, g.2.1⟩
  | .fr l x y, [b, c], _, h, g => ⟨b, c, h, g.1, g.2.1⟩
  | .back t, [], _, _, g => g.elim
  | .again k t, [], _, _, g => g.elim
  | .thn x y, [], _, _, g => g.elim
  | .fr l x y, [], _, _, g => g.elim
  | .thn x y, [_], _, _, g => g.2.elim
  | .fr l x y, [_], _, _, g => g.2.elim
  | .back t, _ :: _ :: _, _, _, g => g.2.elim
  | .again k t, _ :: _ :: _, _, _, g => g.2.elim
  | .thn x y, _ :: _ :: _ :: _, _, _, g => g.2.2.elim
  | .fr l x y, _ :: _ :: _ :: _, _, _, g => g.2.2.elim
theorem sg_cases : ∀ {t : Tm}, made t -> TmF t -> (sgx t = [] /\ sgV t = [] /\ (kdT t = kThen \/ kdT t = kBack)) \/ ∃ c v, sgx t = [32, c] /\ sgV t = [v] /\ ((kdT t = kAgain /\ 48 <= c /\ c <= 54 /\ v = .int ((c - 48 : Nat) : Int)) \/ (kdT t = kFor /\ c ∈ smalls /\ v = .str (S [c])))
  | .back t, _, _ => .inl ⟨rfl, rfl, .inr rfl⟩
  | .thn a b, _, _ => .inl ⟨rfl, rfl, .inl rfl⟩
  | .again k t, _, h => .inr ⟨48 + k, .int k, rfl, rfl, .inl ⟨rfl, by omega, by have := h.1; omega, by rw [Nat.add_sub_cancel_left]⟩⟩
  | .fr c a b, _, h => .inr ⟨c, _, rfl, rfl, .inr ⟨rfl, h.1, rfl⟩⟩
theorem cnt_of : ∀ {t : Tm}, made t -> valV ([(Sum.inr (S kThen), V.int 2), (Sum.inr (S kBack), V.int 1), (Sum.inr (S kAgain), V.int 1), (Sum.inr (S kFor), V.int 2)] : List (Key × V)) (Sum.inr (S (kdT t))) = some (.int ((subs t).length : Nat))
  | .thn a b, _ => valV_pos rfl
  | .back t, _ => (valV_neg (S_ne (show kThen ≠ kBack by decide))).trans (valV_pos rfl)
  | .again k t, _ => (valV_neg (S_ne (show kThen ≠ kAgain by decide))).trans ((valV_neg (S_ne (show kBack ≠ kAgain by decide))).trans (valV_pos rfl))
  | .fr c a b, _ => (valV_neg (S_ne (show kThen ≠ kFor by decide))).trans ((valV_neg (S_ne (show kBack ≠ kFor by decide))).trans ((valV_neg (S_ne (show kAgain ≠ kFor by decide))).trans (valV_pos rfl)))
theorem sub_ne : ∀ {t : Tm}, made t -> ∃ u us, subs t = u :: us
  | .thn a b, _ => ⟨_, _, rfl⟩
  | .back t, _ => ⟨_, _, rfl⟩
  | .again k t, _ => ⟨_, _, rfl⟩
  | .fr c a b, _ => ⟨_, _, rfl⟩
theorem cutA {P X : Addr -> Hp -> Prop} {G : Prop} (f : (∀ a H6, P a H6 -> X a H6) -> G) (x : ∀ a H6, P a H6 -> X a H6) : G := f x
theorem tm_to {H : Hp} {a : Addr} : ∀ {t : Tm}, made t -> TmAt H a t -> ∃ as, H a = some (.tup (hdV t ++ rfs as)) /\ TmsAt H as (subs t)
  | .back t, _, ⟨b, h, g⟩ => ⟨[b], h, g, trivial⟩
  | .again k t, _, ⟨b, h, g⟩ => ⟨[b], h, g, trivial⟩
  | .thn x y, _, ⟨b, c, h, g1, g2⟩ => ⟨[b, c], h, g1, g2, trivial⟩
  | .fr l x y, _, ⟨b, c, h, g1, g2⟩ => ⟨[b, c], h, g1, g2, trivial⟩
noncomputable def sgl : Tm -> List (List Nat)
  | .again k _ => [[48 + k]]
  | .fr c _ _ => [[c]]
  | _ => []
theorem join_T : ∀ {t : Tm}, made t -> [40] ++ joinc 32 ([kdT t] ++ sgl t ++ (subs t).map txT) ++ [41] = txT t
  | .back t, _ => by simp [joinc, kdT, sgl, subs, txT]
  | .again k t, _ => by simp [joinc, kdT, sgl, subs, txT]
  | .thn a b, _ => by simp [joinc, kdT, sgl, subs, txT]
  | .fr c a b, _ => by simp [joinc, kdT, sgl, subs, txT]
theorem cut_neg {α : Type} (a b : List α) (hb : b ≠ []) : cut (a ++ b) (some (-(b.length : Int))) none = b := by
  have hp := List.length_pos_iff.mpr hb
  unfold cut
  have e1 : HT.sIx (a ++ b).length 0 (some (-(b.length : Int))) = a.length := by
    show (if (-(b.length : Int)) < 0 then ((-(b.length : Int)) + ((a ++ b).length : Int)).toNat else min (-(b.length : Int)).toNat (a ++ b).length) = _
    rw [if_pos (by omega), List.length_append]; omega
  have e2 : HT.sIx (a ++ b).length (a ++ b).length none = a.length + b.length := List.length_append
  rw [e1, e2, List.drop_append_of_le_length (Nat.le_refl _), List.drop_length, List.nil_append, Nat.add_sub_cancel_left, List.take_length]
theorem cut_neg1 {α : Type} (x : α) (a b : List α) (hb : b ≠ []) : cut ((x :: a) ++ b) (some 1) (some (-(b.length : Int))) = a := by
  have hp := List.length_pos_iff.mpr hb
  unfold cut
  have e1 : HT.sIx ((x :: a) ++ b).length (x :: a ++ b).length (some (-(b.length : Int))) = a.length + 1 := by
    show (if (-(b.length : Int)) < 0 then ((-(b.length : Int)) + (((x :: a) ++ b).length : Int)).toNat else min (-(b.length : Int)).toNat ((x :: a) ++ b).length) = _
    rw [if_pos (by omega), List.length_append, List.length_cons]; omega
  have e2 : HT.sIx ((x :: a) ++ b).length 0 (some 1) = 1 := by
    have := HT.sIx_nat ((x :: a) ++ b).length 0 1
    rw [show (some ((1 : Nat) : Int)) = some 1 from rfl] at this
    rw [this, List.length_append, List.length_cons]; omega
  rw [e1, e2, Nat.add_sub_cancel]
  show ((a ++ b)).take a.length = a
  rw [List.take_append_of_le_length (Nat.le_refl _), List.take_length]
theorem sgl_str {t : Tm} (hm : made t) (ht : TmF t) : (sgl t = [] /\ sgV t = []) \/ (∃ k : Nat, k <= 6 /\ sgl t = [[48 + k]] /\ sgV t = [.int k]) \/ ∃ c, sgl t = [[c]] /\ sgV t = [.str (S [c])] := by
  cases t with
  | walk w => exact hm.elim
  | name s => exact hm.elim
  | back t => exact .inl ⟨rfl, rfl⟩
  | thn a b => exact .inl ⟨rfl, rfl⟩
  | again k t => exact .inr (.inl ⟨k, ht.1, rfl, rfl⟩)
  | fr c a b => exact .inr (.inr ⟨c, rfl, rfl⟩)
theorem kd_ne : ∀ {t : Tm}, made t -> kdT t ≠ kWalk /\ kdT t ≠ kName
  | .back t, _ => ⟨by show kBack ≠ kWalk; decide, by show kBack ≠ kName; decide⟩
  | .again k t, _ => ⟨by show kAgain ≠ kWalk; decide, by show kAgain ≠ kName; decide⟩
  | .thn a b, _ => ⟨by show kThen ≠ kWalk; decide, by show kThen ≠ kName; decide⟩
  | .fr c a b, _ => ⟨by show kFor ≠ kWalk; decide, by show kFor ≠ kName; decide⟩
theorem rwT_app (a b : List Rw) : rwT (a ++ b) = rwT a ++ rwT b := by unfold rwT; rw [List.map_append]
theorem rowT_len {nm : List Nat} {t : Tm} (hn : NmF nm) (ht : TmF t) (hd : dep t <= 7) : (rowT (nm, t)).length <= 76800 := by
  have h1 := hn.sz
  have h2 := txT_len ht hd
  have e : (rowT (nm, t)).length = nm.length + 3 + (txT t).length := by unfold rowT; simp; omega
  omega
theorem sum_b {b : Nat} : ∀ {ps : List (List Nat)}, (∀ p ∈ ps, p.length <= b) -> (ps.map List.length).sum <= b * ps.length
  | [], _ => Nat.zero_le _
  | p :: ps, h => by
    have h1 := h p List.mem_cons_self
    have h2 := sum_b (ps := ps) fun q hq => h q (List.mem_cons_of_mem _ hq)
    rw [List.map_cons, List.sum_cons, List.length_cons, Nat.mul_add]
    omega
theorem no10 : ∀ {t : Tm}, TmF t -> 10 ∉ txT t
  | .walk w, h, z => by
    rcases List.mem_cons.mp z with e | z
    · cases e
    · rcases List.mem_append.mp z with z | z
      · have := (h.1 10 z).mem; revert this; decide
      · exact absurd (List.mem_singleton.mp z) (by decide)
  | .name s, h, z => by have := h.lt 10 z; revert this; decide
  | .back t, h, z => by have ih := no10 (t := t) h; simp [txT, kBack, ih] at z
  | .again k t, h, z => by have ih := no10 (t := t) h.2; simp [txT, kAgain, ih] at z; omega
  | .thn a b, h, z => by have i1 := no10 (t := a) h.1; have i2 := no10 (t := b) h.2; simp [txT, kThen, i1, i2] at z
  | .fr c a b, h, z => by
    have i1 := no10 (t := a) h.2.1
    have i2 := no10 (t := b) h.2.2
    have hc : ¬ 10 = c := fun e => by have := h.1; rw [<- e] at this; revert this; decide
    simp [txT, kFor, i1, i2, hc] at z
theorem row10 {r : List Nat × Tm} (hn : NmF r.1) (ht : TmF r.2) : 10 ∉ rowT r := fun z => by
  unfold rowT at z
  rcases List.mem_append.mp z with z | z
  · rcases List.mem_append.mp z with z | z
    · have := hn.lt 10 z; revert this; decide
    · revert z; decide
  · exact no10 ht z
theorem sg_get {t : Tm} (hm : made t) (ht : TmF t) {i : Nat} {x : V} (h : (sgV t)[i]? = some x) : ∃ l, (sgl t)[i]? = some l /\ ((∃ n : Nat, x = .int n /\ n < 2 ^ 60 /\ dg n = l) \/ x = .str (S l)) := by
  rcases sgl_str hm ht with ⟨_, e2⟩ | ⟨k, hk, e1, e2⟩ | ⟨c, e1, e2⟩
  · rw [e2] at h; simp at h
  · rw [e2] at h
    cases i with
    | zero =>
      have e : V.int k = x := by simpa using h
      exact ⟨[48 + k], by rw [e1]; rfl, .inl ⟨k, e.symm, by omega, dg_small k hk⟩⟩
    | succ i => simp at h
  · rw [e2] at h
    cases i with
    | zero =>
      have e : V.str (S [c]) = x := by simpa using h
      exact ⟨[c], by rw [e1]; rfl, .inr e.symm⟩
    | succ i => simp at h
theorem sg_len {t : Tm} (hm : made t) (ht : TmF t) : (sgl t).length = (sgV t).length /\ (sgV t).length <= 1 := by
  rcases sgl_str hm ht with ⟨e1, e2⟩ | ⟨k, hk, e1, e2⟩ | ⟨c, e1, e2⟩ <;> rw [e1, e2] <;> simp
theorem join_len {t : Tm} (hm : made t) (ht : TmF t) {n : Nat} (hd : dep t <= n) (hn : n <= 10) : (joinc 32 ([kdT t] ++ sgl t ++ (subs t).map txT)).length + 2 = (txT t).length := by
  have := congrArg List.length (join_T hm)
  simp only [List.length_append, List.length_cons, List.length_nil] at this
  omega
theorem txs_cat (a b : List (List Nat)) : txs a ++ txs b = txs (a ++ b) := by unfold txs; rw [List.map_append]
noncomputable def pcs (ls : List (List Nat)) : List Nat := ls.flatMap fun l => 32 :: l
theorem pcs_snoc (ls : List (List Nat)) (l : List Nat) : pcs (ls ++ [l]) = pcs ls ++ [32] ++ l := by unfold pcs; rw [List.flatMap_append]; simp
theorem pcs_T : ∀ {t : Tm}, made t -> [40] ++ kdT t ++ pcs (sgl t ++ (subs t).map txT) ++ [41] = txT t
  | .back t, _ => by simp [pcs, kdT, sgl, subs, txT]
  | .again k t, _ => by simp [pcs, kdT, sgl, subs, txT]
  | .thn a b, _ => by simp [pcs, kdT, sgl, subs, txT]
  | .fr c a b, _ => by simp [pcs, kdT, sgl, subs, txT]
theorem pcs_le (ls : List (List Nat)) (i : Nat) : (pcs (ls.take i)).length <= (pcs ls).length := by
  have e : pcs ls = pcs (ls.take i) ++ pcs (ls.drop i) := by unfold pcs; rw [<- List.flatMap_append, List.take_append_drop]
  rw [e, List.length_append]; omega
theorem piece_get {H : Hp} {t : Tm} {as : List Addr} (hm : made t) (ht : TmF t) (htm : TmsAt H as (subs t)) {i : Nat} {x : V} (h : (sgV t ++ rfs as)[i]? = some x) :
    (∃ l, (sgl t ++ (subs t).map txT)[i]? = some l /\ ((∃ n : Nat, x = .int n /\ n < 2 ^ 60 /\ dg n = l) \/ x = .str (S l))) \/ ∃ a v, (sgl t ++ (subs t).map txT)[i]? = some (txT v) /\ x = .ref a /\ TmAt H a v /\ v ∈ subs t := by
  obtain ⟨l1, _⟩ := sg_len hm ht
  by_cases hi : i < (sgV t).length
  · rw [List.getElem?_append_left hi] at h
    obtain ⟨l, hl, hx⟩ := sg_get hm ht h
    exact .inl ⟨l, by rw [List.getElem?_append_left (by omega)]; exact hl, hx⟩
  · rw [List.getElem?_append_right (by omega)] at h
    obtain ⟨a, ha, rfl⟩ := rfs_get h
    obtain ⟨v, hv, hvt⟩ := htm.get ha
    exact .inr ⟨a, v, by rw [List.getElem?_append_right (by omega), l1, List.getElem?_map, hv]; rfl, rfl, hvt, List.mem_of_getElem? hv⟩
theorem kw_lt : ∀ {t : Tm}, ∀ c ∈ kdT t, c < 128
  | .walk w => by show ∀ c ∈ kWalk, c < 128; decide
  | .name w => by show ∀ c ∈ kName, c < 128; decide
  | .back w => by show ∀ c ∈ kBack, c < 128; decide
  | .again _ w => by show ∀ c ∈ kAgain, c < 128; decide
  | .thn _ w => by show ∀ c ∈ kThen, c < 128; decide
  | .fr _ _ w => by show ∀ c ∈ kFor, c < 128; decide
theorem al2 {H : Hp} {n : Nat} {a b u v x y : V} (h1 : AlV H n a u) (h2 : AlV H n b v) : ∀ (i : Nat) (x y : V), [a, b][i]? = some x -> [u, v][i]? = some y -> AlV H n x y
  | 0, _, _, e1, e2 => by simp at e1 e2; rw [<- e1, <- e2]; exact h1
  | 1, _, _, e1, e2 => by simp at e1 e2; rw [<- e1, <- e2]; exact h2
  | i + 2, _, _, e1, e2 => by simp at e1
theorem al3 {H : Hp} {n : Nat} {a b c u v w : V} (h1 : AlV H n a u) (h2 : AlV H n b v) (h3 : AlV H n c w) : ∀ (i : Nat) (x y : V), [a, b, c][i]? = some x -> [u, v, w][i]? = some y -> AlV H n x y
  | 0, _, _, e1, e2 => by simp at e1 e2; rw [<- e1, <- e2]; exact h1
  | 1, _, _, e1, e2 => by simp at e1 e2; rw [<- e1, <- e2]; exact h2
  | 2, _, _, e1, e2 => by simp at e1 e2; rw [<- e1, <- e2]; exact h3
  | i + 3, _, _, e1, e2 => by simp at e1
theorem al4 {H : Hp} {n : Nat} {a b c d u v w z : V} (h1 : AlV H n a u) (h2 : AlV H n b v) (h3 : AlV H n c w) (h4 : AlV H n d z) : ∀ (i : Nat) (x y : V), [a, b, c, d][i]? = some x -> [u, v, w, z][i]? = some y -> AlV H n x y
  | 0, _, _, e1, e2 => by simp at e1 e2; rw [<- e1, <- e2]; exact h1
  | 1, _, _, e1, e2 => by simp at e1 e2; rw [<- e1, <- e2]; exact h2
  | 2, _, _, e1, e2 => by simp at e1 e2; rw [<- e1, <- e2]; exact h3
  | 3, _, _, e1, e2 => by simp at e1 e2; rw [<- e1, <- e2]; exact h4
  | i + 4, _, _, e1, e2 => by simp at e1
theorem AlV.up {H : Hp} : ∀ {n : Nat} {x y : V}, AlV H n x y -> ∀ {m : Nat}, n <= m -> AlV H m x y
  | _, _, _, .int i, _, _ => .int i
  | _, _, _, .str h, _, _ => .str h
  | n + 1, _, _, .tup h1 h2 h3 h4 h5, m, hm => by
    obtain ⟨k, rfl⟩ : ∃ k, m = k + 1 := ⟨m - 1, by omega⟩
    exact .tup h1 h2 h3 h4 fun i x y e1 e2 => (h5 i x y e1 e2).up (by omega)
theorem TmAt.al {H : Hp} : ∀ {t : Tm} {a b : Addr}, TmF t -> TmAt H a t -> TmAt H b t -> AlV H (dep t) (.ref a) (.ref b)
  | .walk w, a, b, h, h1, h2 => .tup h1 h2 rfl (by show 2 <= 40; decide) (al2 (x := .non) (y := .non) (.str (kw_lt (t := .walk w))) (.str fun c hc => (h.1 c hc).lt))
  | .name s, a, b, h, h1, h2 => .tup h1 h2 rfl (by show 2 <= 40; decide) (al2 (x := .non) (y := .non) (.str (kw_lt (t := .name s))) (.str h.l128))
  | .back t, a, b, h, ⟨a1, h1, g1⟩, ⟨b1, h2, g2⟩ => .tup h1 h2 rfl (by show 2 <= 40; decide) (al2 (x := .non) (y := .non) (.str (kw_lt (t := .back t))) (TmAt.al h g1 g2))
  | .again k t, a, b, h, ⟨a1, h1, g1⟩, ⟨b1, h2, g2⟩ => .tup h1 h2 rfl (by show 3 <= 40; decide) (al3 (.str (kw_lt (t := .again k t))) (.int _) (TmAt.al h.2 g1 g2))
  | .thn x y, a, b, h, ⟨a1, a2, h1, g1, g1'⟩, ⟨b1, b2, h2, g2, g2'⟩ => .tup h1 h2 rfl (by show 3 <= 40; decide) (al3 (.str (kw_lt (t := .thn x y))) ((TmAt.al h.1 g1 g2).up (Nat.le_max_left ..)) ((TmAt.al h.2 g1' g2').up (Nat.le_max_right ..)))
  | .fr c x y, a, b, h, ⟨a1, a2, h1, g1, g1'⟩, ⟨b1, b2, h2, g2, g2'⟩ => .tup h1 h2 rfl (by show 4 <= 40; decide) (al4 (.str (kw_lt (t := .fr c x y))) (.str fun d hd => by rw [List.mem_singleton.mp hd]; exact Lt.lt (.inl h.1)) ((TmAt.al h.2.1 g1 g2).up (Nat.le_max_left ..)) ((TmAt.al h.2.2 g1' g2').up (Nat.le_max_right ..)))
theorem RwF.al {H : Hp} {k j : Rw} (h : RwF H k) (g : RwF H j) (e : (k.nm, k.t) = (j.nm, j.t)) : AlV H 8 (.ref k.r) (.ref j.r) := by
  have e1 : k.nm = j.nm := congrArg Prod.fst e
  have e2 : k.t = j.t := congrArg Prod.snd e
  have hg := g.tp
  have hg2 := g.tm
  rw [<- e1] at hg
  rw [<- e2] at hg2
  exact .tup h.tp hg rfl (by show 2 <= 40; decide) (al2 (x := .non) (y := .non) (.str h.nf.l128) ((TmAt.al h.tf h.tm hg2).up h.dp))
theorem rows_al {H : Hp} {p r : Addr} {ks js : List Rw} (h1 : H p = some (.tup (rwv ks))) (h2 : H r = some (.tup (rwv js))) (hk : ∀ k ∈ ks, RwF H k) (hj : ∀ k ∈ js, RwF H k) (e : rwT ks = rwT js) (hf : ks.length <= 40) : AlV H 9 (.ref p) (.ref r) := by
  have hl : ks.length = js.length := by have := congrArg List.length e; unfold rwT at this; rwa [List.length_map, List.length_map] at this
  refine .tup h1 h2 (by rw [rwv_len, rwv_len, hl]) (by rw [rwv_len]; exact hf) fun i x y e1 e2 => ?_
  obtain ⟨k, hk1, rfl⟩ := rwv_get e1
  obtain ⟨j, hj1, rfl⟩ := rwv_get e2
  have e3 := congrArg (fun l => l[i]?) e
  simp only [rwT, List.getElem?_map, hk1, hj1, Option.map_some] at e3
  exact (hk k (List.mem_of_getElem? hk1)).al (hj j (List.mem_of_getElem? hj1)) (Option.some.inj e3)
theorem tm_tup {H : Hp} : ∀ {t : Tm} {a : Addr}, TmAt H a t -> ∃ us, H a = some (.tup us)
  | .walk w, a, h => ⟨_, h⟩
  | .name s, a, h => ⟨_, h⟩
  | .back t, a, ⟨b, h, _⟩ => ⟨_, h⟩
  | .again k t, a, ⟨b, h, _⟩ => ⟨_, h⟩
  | .thn x y, a, ⟨b, c, h, _⟩ => ⟨_, h⟩
  | .fr l x y, a, ⟨b, c, h, _⟩ => ⟨_, h⟩
theorem two_getS {x y : Nat} (hx : x ∈ smalls) (hy : y ∈ smalls) : ∀ r : Nat, (r : Int) < 2 -> ∃ c, ([V.str (S [x]), V.str (S [y])] : List V)[r]? = some (.str (S [c])) /\ c ∈ smalls
  | 0, _ => ⟨x, rfl, hx⟩
  | 1, _ => ⟨y, rfl, hy⟩
  | r + 2, h => by omega
structure Nm6 (s : List Nat) : Prop where
  ne : s ≠ []
  lt : ∀ c ∈ s, c ∈ smalls
  sz : s.length <= 6
theorem cutK {P X : Option V -> Hp -> Prop} {G : Prop} (f : (∀ a H6, P a H6 -> X a H6) -> G) (x : ∀ a H6, P a H6 -> X a H6) : G := f x
theorem txP_len {rs : List (List Nat × Tm)} {b : Nat} (h : ∀ r ∈ rs, (rowT r).length <= b) : (txP rs).length <= b * rs.length + rs.length := by
  unfold txP
  have h1 := joinc_len 10 (rs.map rowT)
  have h2 := sum_b (b := b) (ps := rs.map rowT) fun p hp => by
    obtain ⟨r, hr, rfl⟩ := List.mem_map.mp hp
    exact h r hr
  rw [List.length_map] at h1 h2
  omega
noncomputable def top (i : Nat) : Stmt := PySem.Challenge.pw_mustmeet_k60_programs_as_texts.main.body.getD i (.Pass ⟨0, 0, 0, 0⟩)
noncomputable abbrev s_is_letter : Stmt := top 7
noncomputable abbrev s_is_name : Stmt := top 8
noncomputable abbrev s_term_text : Stmt := top 14
noncomputable abbrev s_show_program : Stmt := top 15
noncomputable abbrev s_is_row_name : Stmt := top 16
noncomputable abbrev s_read_walk : Stmt := top 17
noncomputable abbrev s_read_name : Stmt := top 18
noncomputable abbrev s_read_kind : Stmt := top 19
noncomputable abbrev s_read_sign : Stmt := top 20
noncomputable abbrev s_read_terms : Stmt := top 21
noncomputable abbrev s_read_made : Stmt := top 22
noncomputable abbrev s_read_term : Stmt := top 23
noncomputable abbrev s_read_row : Stmt := top 24
noncomputable abbrev s_read_program : Stmt := top 25
noncomputable abbrev s_Lbox : Stmt := top 27
noncomputable abbrev s_Ltake : Stmt := top 28
noncomputable abbrev s_Lnames : Stmt := top 30
noncomputable abbrev s_Lpool : Stmt := top 31
noncomputable abbrev s_Lwalk : Stmt := top 32
noncomputable abbrev s_Lterm : Stmt := top 33
noncomputable abbrev s_Ltermtext : Stmt := top 34
noncomputable abbrev s_Ltext : Stmt := top 35
noncomputable abbrev s_Lsmallprogram : Stmt := top 36
noncomputable abbrev s_Lalike : Stmt := top 37
noncomputable abbrev s_Llongright : Stmt := top 38
noncomputable abbrev s_law : Stmt := top 39
structure FunAt (K : PySem.W.Frag) (mg : Str -> Option Value) (x : Str) (st : Stmt) (ps : List Str) (f : Addr) (fd : FuncData) : Prop where
  fn : Fun K x x st f fd
  mg : mg x = some (.ref f)
  bd : Binds K fd ps []
noncomputable def kv_COUNTS : List (Key × V) := [(Sum.inr (S [116, 104, 101, 110]), .int 2), (Sum.inr (S [98, 97, 99, 107]), .int 1), (Sum.inr (S [97, 103, 97, 105, 110]), .int 1), (Sum.inr (S [102, 111, 114]), .int 2)]
noncomputable def kv_SIGNS : List (Key × V) := [(Sum.inr (S [97, 103, 97, 105, 110]), .str (S [48, 49, 50, 51, 52, 53, 54])), (Sum.inr (S [102, 111, 114]), .str (S [97, 98, 99, 100, 101, 102, 103, 104, 105, 106, 107, 108, 109, 110, 111, 112, 113, 114, 115, 116, 117, 118, 119, 120, 121, 122]))]
structure Txt (P : Program) (w : World) (K : PySem.W.Frag) (mg : Str -> Option Value) (f0 f1 f2 f3 f4 f5 f6 f7 f8 f9 f10 f11 f12 f13 f14 f15 f17 f18 f19 f20 f21 f22 f23 f24 f25 f26 k_COUNTS k_SIGNS : Addr) (d0 d1 d2 d3 d4 d5 d6 d7 d8 d9 d10 d11 d12 d13 d14 d15 d17 d18 d19 d20 d21 d22 d23 d24 d25 d26 : FuncData) : Prop where
  F0 : FunAt K mg "is_letter" s_is_letter ["sign"] f0 d0
  F1 : FunAt K mg "is_name" s_is_name ["text"] f1 d1
  F2 : FunAt K mg "term_text" s_term_text ["term"] f2 d2
  F3 : FunAt K mg "show_program" s_show_program ["program"] f3 d3
  F4 : FunAt K mg "is_row_name" s_is_row_name ["text"] f4 d4
  F5 : FunAt K mg "read_walk" s_read_walk ["row", "start"] f5 d5
  F6 : FunAt K mg "read_name" s_read_name ["row", "start"] f6 d6
  F7 : FunAt K mg "read_kind" s_read_kind ["row", "start"] f7 d7
  F8 : FunAt K mg "read_sign" s_read_sign ["kind", "row", "start"] f8 d8
  F9 : FunAt K mg "read_terms" s_read_terms ["count", "row", "start"] f9 d9
  F10 : FunAt K mg "read_made" s_read_made ["row", "start"] f10 d10
  F11 : FunAt K mg "read_term" s_read_term ["row", "start"] f11 d11
  F12 : FunAt K mg "read_row" s_read_row ["row"] f12 d12
  F13 : FunAt K mg "read_program" s_read_program ["text"] f13 d13
  F14 : FunAt K mg "_law_box" s_Lbox ["_law_script", "_law_k"] f14 d14
  F15 : FunAt K mg "_law_take" s_Ltake ["_law_box_here", "_law_many"] f15 d15
  F17 : FunAt K mg "_law_names" s_Lnames ["_law_box_here", "_law_many"] f17 d17
  F18 : FunAt K mg "_law_pool" s_Lpool ["_law_box_here"] f18 d18
  F19 : FunAt K mg "_law_walk" s_Lwalk ["_law_box_here", "_law_pool_here"] f19 d19
  F20 : FunAt K mg "_law_term" s_Lterm ["_law_box_here", "_law_known", "_law_pool_here", "_law_room", "_law_deep"] f20 d20
  F21 : FunAt K mg "_law_term_text" s_Ltermtext ["_law_term_here"] f21 d21
  F22 : FunAt K mg "_law_text" s_Ltext ["_law_program"] f22 d22
  F23 : FunAt K mg "_law_small_program" s_Lsmallprogram ["_law_box_here"] f23 d23
  F24 : FunAt K mg "_law_alike" s_Lalike ["_law_found", "_law_due"] f24 d24
  F25 : FunAt K mg "_law_long_right" s_Llongright ["_law_box_here"] f25 d25
  F26 : FunAt K mg "law" s_law ["_law_script"] f26 d26
  m_COUNTS : mg "COUNTS" = some (.ref k_COUNTS)
  d_COUNTS : KD K P w k_COUNTS kv_COUNTS
  m_SIGNS : mg "SIGNS" = some (.ref k_SIGNS)
  d_SIGNS : KD K P w k_SIGNS kv_SIGNS
  z_all : mg "all" = none
  z_bool : mg "bool" = none
  z_enumerate : mg "enumerate" = none
  z_int : mg "int" = none
  z_isinstance : mg "isinstance" = none
  z_len : mg "len" = none
  z_max : mg "max" = none
  z_min : mg "min" = none
  z_range : mg "range" = none
  z_str : mg "str" = none
  z_tuple : mg "tuple" = none
  z_zip : mg "zip" = none
  g_LETTERS : ∃ t, mg "LETTERS" = some (.str (S [97, 98, 99, 100, 101, 102, 103, 104, 105, 106, 107, 108, 109, 110, 111, 112, 113, 114, 115, 116, 117, 118, 119, 120, 121, 122, 65, 66, 67, 68, 69, 70, 71, 72, 73, 74, 75, 76, 77, 78, 79, 80, 81, 82, 83, 84, 85, 86, 87, 88, 89, 90]) t)
  g_LONGEST_NAME : ∃ t, mg "LONGEST_NAME" = some (.int 6 t)
  g_SMALL : ∃ t, mg "SMALL" = some (.str (S [97, 98, 99, 100, 101, 102, 103, 104, 105, 106, 107, 108, 109, 110, 111, 112, 113, 114, 115, 116, 117, 118, 119, 120, 121, 122]) t)
  g_STROKE : ∃ t, mg "STROKE" = some (.str (S [39]) t)
  g_IS : ∃ t, mg "IS" = some (.str (S [32, 61, 32]) t)
theorem sc_is_letter : FnScope ["sign"] ["sign"] (defScope s_is_letter) := ⟨rfl, rfl, rfl, by decide +kernel, rfl, by decide +kernel, by decide +kernel⟩
theorem sc_is_name : FnScope ["text"] ["text"] (defScope s_is_name) := ⟨rfl, rfl, rfl, by decide +kernel, rfl, by decide +kernel, by decide +kernel⟩
theorem sc_term_text : FnScope ["term", "count", "parts", "signs"] ["term"] (defScope s_term_text) := ⟨rfl, rfl, rfl, by decide +kernel, rfl, by decide +kernel, by decide +kernel⟩
theorem sc_show_program : FnScope ["program"] ["program"] (defScope s_show_program) := ⟨rfl, rfl, rfl, by decide +kernel, rfl, by decide +kernel, by decide +kernel⟩
theorem sc_is_row_name : FnScope ["text"] ["text"] (defScope s_is_row_name) := ⟨rfl, rfl, rfl, by decide +kernel, rfl, by decide +kernel, by decide +kernel⟩
theorem sc_read_walk : FnScope ["row", "start", "end", "word"] ["row", "start"] (defScope s_read_walk) := ⟨rfl, rfl, rfl, by decide +kernel, rfl, by decide +kernel, by decide +kernel⟩
theorem sc_read_name : FnScope ["row", "start", "end"] ["row", "start"] (defScope s_read_name) := ⟨rfl, rfl, rfl, by decide +kernel, rfl, by decide +kernel, by decide +kernel⟩
theorem sc_read_kind : FnScope ["row", "start", "kind"] ["row", "start"] (defScope s_read_kind) := ⟨rfl, rfl, rfl, by decide +kernel, rfl, by decide +kernel, by decide +kernel⟩
theorem sc_read_sign : FnScope ["kind", "row", "start", "sign"] ["kind", "row", "start"] (defScope s_read_sign) := ⟨rfl, rfl, rfl, by decide +kernel, rfl, by decide +kernel, by decide +kernel⟩
theorem sc_read_terms : FnScope ["count", "row", "start", "terms", "end", "number", "read"] ["count", "row", "start"] (defScope s_read_terms) := ⟨rfl, rfl, rfl, by decide +kernel, rfl, by decide +kernel, by decide +kernel⟩
theorem sc_read_made : FnScope ["row", "start", "read", "term"] ["row", "start"] (defScope s_read_made) := ⟨rfl, rfl, rfl, by decide +kernel, rfl, by decide +kernel, by decide +kernel⟩
theorem sc_read_term : FnScope ["row", "start"] ["row", "start"] (defScope s_read_term) := ⟨rfl, rfl, rfl, by decide +kernel, rfl, by decide +kernel, by decide +kernel⟩
theorem sc_read_row : FnScope ["row", "parts", "read"] ["row"] (defScope s_read_row) := ⟨rfl, rfl, rfl, by decide +kernel, rfl, by decide +kernel, by decide +kernel⟩
theorem sc_read_program : FnScope ["text", "rows", "number", "row", "read"] ["text"] (defScope s_read_program) := ⟨rfl, rfl, rfl, by decide +kernel, rfl, by decide +kernel, by decide +kernel⟩
theorem sc_Lbox : FnScope ["_law_script", "_law_k", "_law_cell", "_law_seed"] ["_law_script", "_law_k"] (defScope s_Lbox) := ⟨rfl, rfl, rfl, by decide +kernel, rfl, by decide +kernel, by decide +kernel⟩
theorem sc_Ltake : FnScope ["_law_box_here", "_law_many", "_law_digit", "_law_one"] ["_law_box_here", "_law_many"] (defScope s_Ltake) := ⟨rfl, rfl, rfl, by decide +kernel, rfl, by decide +kernel, by decide +kernel⟩
theorem sc_Lnames : FnScope ["_law_box_here", "_law_many", "_law_letters", "_law_stem", "_law_found", "_law_form", "_law_name", "_law_at"] ["_law_box_here", "_law_many"] (defScope s_Lnames) := ⟨rfl, rfl, rfl, by decide +kernel, rfl, by decide +kernel, by decide +kernel⟩
theorem sc_Lpool : FnScope ["_law_box_here", "_law_letters", "_law_some"] ["_law_box_here"] (defScope s_Lpool) := ⟨rfl, rfl, rfl, by decide +kernel, rfl, by decide +kernel, by decide +kernel⟩
theorem sc_Lwalk : FnScope ["_law_box_here", "_law_pool_here", "_law_some"] ["_law_box_here", "_law_pool_here"] (defScope s_Lwalk) := ⟨rfl, rfl, rfl, by decide +kernel, rfl, by decide +kernel, by decide +kernel⟩
theorem sc_Lterm : FnScope ["_law_box_here", "_law_known", "_law_pool_here", "_law_room", "_law_deep", "_law_form", "_law_often", "_law_share", "_law_letter", "_law_one", "_law_other_here"] ["_law_box_here", "_law_known", "_law_pool_here", "_law_room", "_law_deep"] (defScope s_Lterm) := ⟨rfl, rfl, rfl, by decide +kernel, rfl, by decide +kernel, by decide +kernel⟩
theorem sc_Ltermtext : FnScope ["_law_term_here", "_law_found", "_law_part"] ["_law_term_here"] (defScope s_Ltermtext) := ⟨rfl, rfl, rfl, by decide +kernel, rfl, by decide +kernel, by decide +kernel⟩
theorem sc_Ltext : FnScope ["_law_program"] ["_law_program"] (defScope s_Ltext) := ⟨rfl, rfl, rfl, by decide +kernel, rfl, by decide +kernel, by decide +kernel⟩
theorem sc_Lsmallprogram : FnScope ["_law_box_here", "_law_names_here", "_law_pool_here", "_law_top", "_law_room", "_law_rows", "_law_k", "_law_name"] ["_law_box_here"] (defScope s_Lsmallprogram) := ⟨rfl, rfl, rfl, by decide +kernel, rfl, by decide +kernel, by decide +kernel⟩
theorem sc_Lalike : FnScope ["_law_found", "_law_due"] ["_law_found", "_law_due"] (defScope s_Lalike) := ⟨rfl, rfl, rfl, by decide +kernel, rfl, by decide +kernel, by decide +kernel⟩
theorem sc_Llongright : FnScope ["_law_box_here", "_law_names_here", "_law_pool_here", "_law_rows", "_law_k", "_law_text_here", "_law_found"] ["_law_box_here"] (defScope s_Llongright) := ⟨rfl, rfl, rfl, by decide +kernel, rfl, by decide +kernel, by decide +kernel⟩
theorem sc_law : FnScope ["_law_script", "_law_some", "_law_program", "_law_text_here", "_law_found", "_law_back"] ["_law_script"] (defScope s_law) := ⟨rfl, rfl, rfl, by decide +kernel, rfl, by decide +kernel, by decide +kernel⟩
section
variable {P : Program} {w : World} {K : PySem.W.Frag} {mg : Str -> Option Value} {base : Heap} {f0 f1 f2 f3 f4 f5 f6 f7 f8 f9 f10 f11 f12 f13 f14 f15 f17 f18 f19 f20 f21 f22 f23 f24 f25 f26 k_COUNTS k_SIGNS : Addr} {d0 d1 d2 d3 d4 d5 d6 d7 d8 d9 d10 d11 d12 d13 d14 d15 d17 d18 d19 d20 d21 d22 d23 d24 d25 d26 : FuncData}
theorem ok_Ltake (T : Txt P w K mg f0 f1 f2 f3 f4 f5 f6 f7 f8 f9 f10 f11 f12 f13 f14 f15 f17 f18 f19 f20 f21 f22 f23 f24 f25 f26 k_COUNTS k_SIGNS d0 d1 d2 d3 d4 d5 d6 d7 d8 d9 d10 d11 d12 d13 d14 d15 d17 d18 d19 d20 d21 d22 d23 d24 d25 d26) : FnOk P w K mg base CX0 1 f15 d15 ["_law_box_here", "_law_many"] (sp_Ltake K) := by
  refine T.F15.fn.ok sc_Ltake (fun vs H Q E h => len_Ltake h) (fun cdv A outer s H vs Q E hr h => ?_)
  refine ⟨_, (pss_cons (ps_if (pt_cmpR op_gt (pe_ix (ix_listK K rfl) (pv 0) pe_int (fun _ _ => rfl)) pe_int (nomark _)) (pss_cons (ps_set (i := 2) sc_Ltake.nd rfl (Or.inl rfl) (pe_op op_mod (pe_ix (ix_listK K rfl) (pv 0) pe_int (fun _ _ => rfl)) (pv 1)))
      (pss_cons (ps_asg (pe_op op_fdiv (pe_ix (ix_listK K rfl) (pv 0) pe_int (fun _ _ => rfl)) (pv 1)) (pg_sub (pv 0) pe_int set_list))
      (pss_one (ps_ret (pv 2))))) pss_nil)
      (pss_cons (ps_set (i := 3) sc_Ltake.nd rfl (Or.inl rfl) (pe_op op_mod (pe_op op_mul (pe_ix (ix_listK K rfl) (pv 0) pe_int (fun _ _ => rfl)) pe_int) pe_int))
      (pss_cons (ps_asg (pe_op op_add (pe_op op_mod (pe_op op_add (pe_op op_mul (pv 3) pe_int) pe_int) pe_int) pe_int) (pg_sub (pv 0) pe_int set_list))
      (pss_one (ps_ret (pe_op op_mod (pe_op op_fdiv (pe_op op_add (pe_op op_mul (pv 3) pe_int) (pe_ix (ix_listK K rfl) (pv 0) pe_int (fun _ _ => rfl))) pe_int) (pv 1))))))), ?_⟩
  obtain ⟨b, m, rfl, ⟨x, y, hb⟩, h1, h2, q⟩ := h
  have fin : ∀ (r x' y' : Int), 0 <= r -> r < m -> Q (.int r) (upd H b (.lst [.int x', .int y'])) := fun r x' y' h3 h4 => by
    have e : r = ((r.toNat : Nat) : Int) := by omega
    rw [e]
    exact q r.toNat _ (by omega) ⟨x', y', upd_same⟩ (SameB.upd b H _)
  refine ⟨_, rfl, b, _, 0, _, rfl, rfl, SqL.of hb, rfl, _, _, rfl, rfl, _, rfl, ite2 (fun e => ?_) (fun e => ?_)⟩
  · refine ⟨_, rfl, b, _, 0, _, rfl, rfl, SqL.of hb, rfl, _, rfl, _, _, rfl, rfl, (by omega : 0 < m), ?_⟩
    refine ⟨_, rfl, b, _, 0, _, rfl, rfl, SqL.of hb, rfl, _, rfl, _, _, rfl, rfl, ⟨by omega, by omega⟩, _, rfl, b, _, 0, 0, rfl, rfl, hb, rfl, _, rfl, ?_⟩
    exact fin (x % m) (x / m) y (Int.emod_nonneg _ (by omega)) (Int.emod_lt_of_pos _ (by omega))
  · refine ⟨_, rfl, b, _, 1, _, rfl, rfl, SqL.of hb, rfl, _, _, rfl, rfl, .inr ⟨by decide, by decide⟩, _, _, rfl, rfl, (by decide : (0 : Int) < 2147483647), ?_⟩
    refine ⟨_, rfl, _, _, rfl, rfl, .inr ⟨by decide, by decide⟩, _, _, rfl, rfl, _, _, rfl, rfl, (by decide : (0 : Int) < 2147483629), _, _, rfl, rfl, _, rfl, b, _, 1, 1, rfl, rfl, hb, rfl, ?_⟩
    refine ⟨_, rfl, _, _, rfl, rfl, .inr ⟨by decide, by decide⟩, _, rfl, b, _, 1, _, rfl, rfl, SqL.of upd_same, rfl, _, _, rfl, rfl, _, _, rfl, rfl, ⟨by decide, by decide⟩, _, rfl, _, _, rfl, rfl, (by omega : 0 < m), ?_⟩
    exact fin _ _ _ (Int.emod_nonneg _ (by omega)) (Int.emod_lt_of_pos _ (by omega))
theorem step_term_text (T : Txt P w K mg f0 f1 f2 f3 f4 f5 f6 f7 f8 f9 f10 f11 f12 f13 f14 f15 f17 f18 f19 f20 f21 f22 f23 f24 f25 f26 k_COUNTS k_SIGNS d0 d1 d2 d3 d4 d5 d6 d7 d8 d9 d10 d11 d12 d13 d14 d15 d17 d18 d19 d20 d21 d22 d23 d24 d25 d26) (n : Nat) (ih : FnOk P w K mg base CX0 (1 + n) f2 d2 ["term"] (sp_term_text K n)) : FnOk P w K mg base CX0 (1 + n + 1) f2 d2 ["term"] (sp_term_text K (n + 1)) := by
  refine T.F2.fn.ok sc_term_text (fun vs H Q E h => len_term_text h) (fun cdv A outer s H vs Q E hr h => ?_)
  refine ⟨_, (pss_cons (ps_if (pt_cmpR op_eqS (pe_ix (ix_tupK K rfl) (pv 0) pe_int (fun _ _ => rfl)) (pe_S [119, 97, 108, 107] (by decide +kernel)) (nomark _)) (pss_one (ps_ret (pe_op op_addS (pe_op op_addS (pe_gS [39] rfl T.g_STROKE) (pe_ix (ix_tupK K rfl) (pv 0) pe_int (fun _ _ => rfl))) (pe_gS [39] rfl T.g_STROKE)))) pss_nil)
      (pss_cons (ps_if (pt_cmpR op_eqS (pe_ix (ix_tupK K rfl) (pv 0) pe_int (fun _ _ => rfl)) (pe_S [110, 97, 109, 101] (by decide +kernel)) (nomark _)) (pss_one (ps_ret (pe_ix (ix_tupK K rfl) (pv 0) pe_int (fun _ _ => rfl)))) pss_nil)
      (pss_cons (ps_set (i := 1) sc_term_text.nd rfl (Or.inl rfl) (pe_kget K P w rfl rfl rfl (pe_glob (v := .ref k_COUNTS) rfl T.m_COUNTS rfl) (pe_ix (ix_tupK K rfl) (pv 0) pe_int (fun _ _ => rfl)) (fun _ _ => rfl)))
      (pss_cons (ps_setCB (i := 2) ["part"] [none] sc_term_text.nd rfl (Or.inl rfl) (pi_tupK K rfl (pe_slice sl_tupA (pv 0) (po_some (pe_un un_neg (pv 1))) po_none)) trivial (fun _ _ _ _ => (pg_name (i := 0) (by decide +kernel : List.Nodup (["part"] : List Str)) rfl (Or.inl rfl))) (fun _ _ _ _ => pf_nil) (fun _ _ _ _ => (pe_call ih hr rfl T.F2.mg T.F2.fn.kp T.F2.bd .nil pass0 (pa_cons (pv 0) pa_nil))))
      (pss_cons (ps_setCB (i := 3) ["sign"] [none] sc_term_text.nd rfl (Or.inl rfl) (pi_tupK K rfl (pe_slice sl_tupA (pv 0) (po_some pe_int) (po_some (pe_un un_neg (pv 1))))) trivial (fun _ _ _ _ => (pg_name (i := 0) (by decide +kernel : List.Nodup (["sign"] : List Str)) rfl (Or.inl rfl))) (fun _ _ _ _ => pf_nil) (fun _ _ _ _ => (pe_callTy call_strU rfl T.z_str boot_str (pa_cons (pv 0) pa_nil))))
      (pss_one (ps_ret (pe_op op_addS (pe_op op_addS (pe_S [40] (by decide +kernel)) (pe_bmK K rfl PySem.F.plainAttrs_str PySem.F.slot_str_join PySem.F.type_str_join (mt_joinC K 32 rfl) (pe_S [32] (by decide +kernel)) (pa_cons (pe_op op_cat (pe_op op_cat (pe_lst (pa_cons (pe_ix (ix_tupK K rfl) (pv 0) pe_int (fun _ _ => rfl)) pa_nil)) (pv 3)) (pv 2)) pa_nil))) (pe_S [41] (by decide +kernel)))))))))), ?_⟩
  obtain ⟨a, t, rfl, hta, ht, hd, hn, q⟩ := h
  have hs : (900001 : Nat) < sizeLine := by decide
  by_cases hm : made t
  · obtain ⟨as, ha, htm⟩ := tm_to hm hta
    obtain ⟨n1, n2⟩ := kd_ne hm
    have hal := htm.len
    obtain ⟨u, us, esub⟩ := sub_ne hm
    have hsl := subs_len t
    have hane : rfs as ≠ [] := fun z => by
      have := congrArg List.length z
      rw [rfs_len, hal, esub] at this
      simp at this
    have ehd : hdV t = .str (S (kdT t)) :: sgV t := rfl
    have at0 : atI (hdV t ++ rfs as) 0 = some (.str (S (kdT t))) := atI_nat (j := 0) rfl
    refine ⟨_, rfl, a, _, _, _, rfl, rfl, SqT.of ha, at0, _, _, rfl, rfl, _, rfl, iteN (decide_eq_false n1) ?_⟩
    refine ⟨_, rfl, a, _, _, _, rfl, rfl, SqT.of ha, at0, _, _, rfl, rfl, _, rfl, iteN (decide_eq_false n2) ?_⟩
    refine ⟨_, rfl, a, _, _, _, rfl, rfl, SqT.of ha, at0, k_COUNTS, kv_COUNTS, Sum.inr (S (kdT t)), _, rfl, T.d_COUNTS, rfl, cnt_of hm, ?_⟩
    refine ⟨_, rfl, _, rfl, ?_⟩
    have ecut : cutV (hdV t ++ rfs as) (some (-((subs t).length : Int))) none = rfs as := by
      rw [<- hal, <- rfs_len as]; exact cut_neg _ _ hane
    have ecut1 : cutV (hdV t ++ rfs as) (some 1) (some (-((subs t).length : Int))) = sgV t := by
      rw [<- hal, <- rfs_len as, ehd]; exact cut_neg1 _ _ _ hane
    have hxl := txT_10 ht hd (by omega)
    refine ⟨_, rfl, _, rfl, a, _, rfl, ha, fun p1 H1 s1 hp1 => ?_⟩
    rw [ecut] at hp1
    replace s1 : Same H H1 := s1
    have htm1 := htm.ts (TSame.of s1)
    refine ⟨p1, rfl, ⟨_, SqT.of hp1⟩, ?_⟩
    refine comp_tup (K := K) (a := p1) (xs := rfs as) (fun i acc H' => Same H1 H' /\ acc = txs (((subs t).take i).map txT)) (by rw [rfs_len]; omega) (fun i acc H' h => SqT.of (h.1 _ _ hp1)) ⟨Same.refl _, rfl⟩ ?_ ?_
    · rintro i x acc H2 Nx hi hx hz ⟨s2, rfl⟩ nx
      obtain ⟨a', ha', rfl⟩ := rfs_get hx
      obtain ⟨v, hv, hvt⟩ := htm1.get ha'
      have hvm := List.mem_of_getElem? hv
      refine ⟨trivial, yes_ite ?_⟩
      refine ⟨_, rfl, a', v, rfl, hvt.same s2, subs_F ht hvm, subs_dep hd hvm, by omega, fun H3 s3 => nx _ _ (by simpa using hz) ⟨s2.trans s3, ?_⟩⟩
      rw [txs_snoc, <- take_snoc hv, List.map_append]
      rfl
    rintro acc H2 P1 hz2 ⟨s2, rfl⟩ nP1
    rw [rfs_len, hal, List.take_length]
    have sP := Same.upd (o := HO.lst (txs ((subs t).map txT))) nP1
    have hP1 : upd H2 P1 (HO.lst (txs ((subs t).map txT))) P1 = some (HO.lst (txs ((subs t).map txT))) := upd_same
    have s03 := s1.trans (s2.trans sP)
    generalize upd H2 P1 (HO.lst (txs ((subs t).map txT))) = H3 at sP hP1 s03 ⊢
    have ha3 := s03 _ _ ha
    refine ⟨_, rfl, 1, rfl, _, rfl, _, rfl, _, rfl, a, _, rfl, ha3, fun p2 H4 s4 hp2 => ?_⟩
    replace s4 : Same H3 H4 := s4
    rw [ecut1] at hp2
    obtain ⟨l1, l2⟩ := sg_len hm ht
    refine ⟨p2, rfl, ⟨_, SqT.of hp2⟩, ?_⟩
    refine comp_tup (K := K) (a := p2) (xs := sgV t) (fun i acc H' => Same H4 H' /\ acc = txs ((sgl t).take i)) (by omega) (fun i acc H' h => SqT.of (h.1 _ _ hp2)) ⟨Same.refl _, rfl⟩ ?_ ?_
    · rintro i x acc H5 Nx hi hx hz ⟨s5, rfl⟩ nx
      obtain ⟨l, hl, hxl⟩ := sg_get hm ht hx
      have fin : txs ((sgl t).take i) ++ [V.str (S l)] = txs ((sgl t).take (i + 1)) := by rw [txs_snoc, <- take_snoc hl]
      refine ⟨trivial, yes_ite ?_⟩
      rcases hxl with ⟨m, rfl, hm60, hdg⟩ | rfl
      · refine ⟨_, rfl, .inl ⟨m, rfl, hm60, nx _ _ (by simpa using hz) ⟨s5, ?_⟩⟩⟩
        rw [hdg]; exact fin
      · exact ⟨_, rfl, .inr ⟨l, rfl, nx _ _ (by simpa using hz) ⟨s5, fin⟩⟩⟩
    rintro acc H5 P2 hz5 ⟨s5, rfl⟩ nP2
    rw [<- l1, List.take_length]
    have sQ := Same.upd (o := HO.lst (txs (sgl t))) nP2
    have hP2 : upd H5 P2 (HO.lst (txs (sgl t))) P2 = some (HO.lst (txs (sgl t))) := upd_same
    have s36 := s4.trans (s5.trans sQ)
    generalize upd H5 P2 (HO.lst (txs (sgl t))) = H6 at sQ hP2 s36 ⊢
    have s06 := s03.trans s36
    have hP1' := s36 _ _ hP1
    have ha6 := s06 _ _ ha
    refine ⟨rfl, _, rfl, a, _, _, _, rfl, rfl, SqT.of ha6, at0, by show 1 <= sizeLine; decide, fun pl npl => ?_⟩
    have s7 := Same.upd (o := HO.lst (txs [kdT t])) npl
    refine ⟨_, rfl, pl, P2, txs [kdT t], _, rfl, rfl, upd_same, s7 _ _ hP2, by rw [txs_len, txs_len]; show 1 + _ <= _; omega, fun r1 nr1 => ?_⟩
    rw [txs_cat]
    have s8 := Same.upd (o := HO.lst (txs ([kdT t] ++ sgl t))) nr1
    refine ⟨_, rfl, r1, P1, _, _, rfl, rfl, upd_same, s8 _ _ (s7 _ _ hP1'), ?_, fun r2 nr2 => ?_⟩
    · rw [txs_len, txs_len, List.length_append, List.length_map]; show 1 + _ + _ <= _; omega
    rw [txs_cat]
    have s9 := Same.upd (o := HO.lst (txs ([kdT t] ++ sgl t ++ (subs t).map txT))) nr2
    have hjl := join_len hm ht hd (by omega)
    refine ⟨r2, [kdT t] ++ sgl t ++ (subs t).map txT, rfl, rfl, SqL.of upd_same, ?_, ?_⟩
    · have hb := sum_b (b := 614400) (ps := [kdT t] ++ sgl t ++ (subs t).map txT) fun l hl => by
        rcases List.mem_append.mp hl with g | g
        · rcases List.mem_append.mp g with g | g
          · rw [List.mem_singleton.mp g]
            have := kd_kinds hm
            simp only [kinds, List.mem_cons, List.not_mem_nil, or_false] at this
            rcases this with e | e | e | e <;> rw [e] <;> decide
          · rcases sgl_str hm ht with ⟨e1, _⟩ | ⟨k, _, e1, _⟩ | ⟨c, e1, _⟩
            · rw [e1] at g; cases g
            · rw [e1] at g; rw [List.mem_singleton.mp g]; show 1 <= _; decide
            · rw [e1] at g; rw [List.mem_singleton.mp g]; show 1 <= _; decide
        · obtain ⟨v, hv, rfl⟩ := List.mem_map.mp g
          exact txT_10 (subs_F ht hv) (subs_dep hd hv) (by omega)
      have hll : ([kdT t] ++ sgl t ++ (subs t).map txT).length <= 4 := by
        rw [List.length_append, List.length_append, List.length_map]
        show 1 + _ + _ <= 4
        omega
      omega
    refine ⟨_, _, rfl, rfl, by simp only [List.length_cons, List.length_nil]; omega, _, _, rfl, rfl, by simp only [List.length_append, List.length_cons, List.length_nil]; omega, ?_⟩
    rw [join_T hm]
    exact q _ (s06.trans (s7.trans (s8.trans s9)))
  · cases t with
    | walk w =>
      have hw := ht.2
      refine ⟨_, rfl, a, _, _, _, rfl, rfl, SqT.of hta, atI_nat (j := 0) rfl, _, _, rfl, rfl, _, rfl, iteY (decide_eq_true rfl) ?_⟩
      refine ⟨_, rfl, a, _, _, _, rfl, rfl, SqT.of hta, atI_nat (j := 1) rfl, _, _, rfl, rfl, by simp only [List.length_cons, List.length_nil]; omega, _, _, rfl, rfl, by simp only [List.length_append, List.length_cons, List.length_nil]; omega, ?_⟩
      exact q _ (Same.refl _)
    | name s =>
      refine ⟨_, rfl, a, _, _, _, rfl, rfl, SqT.of hta, atI_nat (j := 0) rfl, _, _, rfl, rfl, _, rfl, iteN (decide_eq_false (by decide)) ?_⟩
      refine ⟨_, rfl, a, _, _, _, rfl, rfl, SqT.of hta, atI_nat (j := 0) rfl, _, _, rfl, rfl, _, rfl, iteY (decide_eq_true rfl) ?_⟩
      exact ⟨_, rfl, a, _, _, _, rfl, rfl, SqT.of hta, atI_nat (j := 1) rfl, q _ (Same.refl _)⟩
    | back t => exact absurd trivial hm
    | again k t => exact absurd trivial hm
    | thn a b => exact absurd trivial hm
    | fr c a b => exact absurd trivial hm
theorem ok_term_text (T : Txt P w K mg f0 f1 f2 f3 f4 f5 f6 f7 f8 f9 f10 f11 f12 f13 f14 f15 f17 f18 f19 f20 f21 f22 f23 f24 f25 f26 k_COUNTS k_SIGNS d0 d1 d2 d3 d4 d5 d6 d7 d8 d9 d10 d11 d12 d13 d14 d15 d17 d18 d19 d20 d21 d22 d23 d24 d25 d26) : ∀ n, FnOk P w K mg base CX0 (1 + n) f2 d2 ["term"] (sp_term_text K n)
  | 0 => fn_never fun vs H Q E h => nev_term_text h
  | n + 1 => step_term_text T n (ok_term_text T n)
theorem ok_is_letter (T : Txt P w K mg f0 f1 f2 f3 f4 f5 f6 f7 f8 f9 f10 f11 f12 f13 f14 f15 f17 f18 f19 f20 f21 f22 f23 f24 f25 f26 k_COUNTS k_SIGNS d0 d1 d2 d3 d4 d5 d6 d7 d8 d9 d10 d11 d12 d13 d14 d15 d17 d18 d19 d20 d21 d22 d23 d24 d25 d26) : FnOk P w K mg base CX0 1 f0 d0 ["sign"] (sp_is_letter K) := by
  refine T.F0.fn.ok sc_is_letter (fun vs H Q E h => len_is_letter h) (fun cdv A outer s H vs Q E hr h => ?_)
  refine ⟨_, (pss_one (ps_ret (pe_cmpR op_inS (pv 0) (pe_gS [97, 98, 99, 100, 101, 102, 103, 104, 105, 106, 107, 108, 109, 110, 111, 112, 113, 114, 115, 116, 117, 118, 119, 120, 121, 122, 65, 66, 67, 68, 69, 70, 71, 72, 73, 74, 75, 76, 77, 78, 79, 80, 81, 82, 83, 84, 85, 86, 87, 88, 89, 90] rfl T.g_LETTERS) (by with_unfolding_all rfl)))), ?_⟩
  obtain ⟨c, rfl, q⟩ := h
  exact ⟨_, rfl, c, letters, rfl, rfl, q⟩
theorem ok_read_walk (T : Txt P w K mg f0 f1 f2 f3 f4 f5 f6 f7 f8 f9 f10 f11 f12 f13 f14 f15 f17 f18 f19 f20 f21 f22 f23 f24 f25 f26 k_COUNTS k_SIGNS d0 d1 d2 d3 d4 d5 d6 d7 d8 d9 d10 d11 d12 d13 d14 d15 d17 d18 d19 d20 d21 d22 d23 d24 d25 d26) : FnOk P w K mg base CX0 2 f5 d5 ["row", "start"] (sp_read_walk K) := by
  have G_is_letter := ok_is_letter (P := P) (w := w) (base := base) T
  refine T.F5.fn.ok sc_read_walk (fun vs H Q E h => len_read_walk h) (fun cdv A outer s H vs Q E hr h => ?_)
  refine ⟨_, (pss_cons (ps_set (i := 2) sc_read_walk.nd rfl (Or.inl rfl) (pe_bmK K rfl PySem.F.plainAttrs_str PySem.F.slot_str_find PySem.F.type_str_find mt_findF (pv 0) (pa_cons (pe_gS [39] rfl T.g_STROKE) (pa_cons (pe_op op_add (pv 1) pe_int) pa_nil))))
      (pss_cons (ps_set (i := 3) sc_read_walk.nd rfl (Or.inl rfl) (pe_slice sl_S (pv 0) (po_some (pe_op op_add (pv 1) pe_int)) (po_some (pv 2))))
      (pss_cons (ps_if (PW.pt (pw_or (pt_cmpR op_lt (pv 2) pe_int (nomark _)) (pw_or1 (pt_not (pt_val (pe_callB (call_allK K rfl rfl) rfl T.z_all boot_all (pa_cons (pe_compB ["sign"] [none] (pi_str (pv 3)) trivial (fun _ _ _ _ => (pg_name (i := 0) (by decide +kernel : List.Nodup (["sign"] : List Str)) rfl (Or.inl rfl))) (fun _ _ _ _ => pf_nil) (fun _ _ _ _ => (pe_call G_is_letter (hr.mono (by decide)) rfl T.F0.mg T.F0.fn.kp T.F0.bd .nil pass0 (pa_cons (pv 0) pa_nil)))) pa_nil))))))) (pss_one (ps_ret pe_non)) pss_nil)
      (pss_one (ps_ret (pe_tup (pa_cons (pe_tup (pa_cons (pe_S [119, 97, 108, 107] (by decide +kernel)) (pa_cons (pv 3) pa_nil))) (pa_cons (pe_op op_add (pv 2) pe_int) pa_nil)))))))), ?_⟩
  obtain ⟨pre, w, post, rfl, hw, hz, q⟩ := h
  have hs : (900001 : Nat) < sizeLine := by decide
  have e0 : pre ++ txT (.walk w) ++ post = (pre ++ [39]) ++ (w ++ 39 :: post) := by simp [txT]
  have e1 : (pre ++ txT (.walk w) ++ post).drop (pre.length + 1) = w ++ 39 :: post := by rw [e0]; exact drop_at (by simp)
  have hi : pre.length + 1 <= (pre ++ txT (.walk w) ++ post).length := by rw [e0]; simp
  have n39 : 39 ∉ w := fun z => no39 (hw.1 39 z)
  have hw5 := hw.2
  refine ⟨_, rfl, rfl, _, rfl, _, _, rfl, rfl, _, 39, pre.length + 1, rfl, rfl, hi, ?_⟩
  rw [e1, if_pos (List.mem_append_right _ List.mem_cons_self), idx_app n39]
  have ec : cut (pre ++ txT (.walk w) ++ post) (some ((pre.length : Int) + 1)) (some ((pre.length + 1 + w.length : Nat) : Int)) = w := by
    have := cut_md (pre ++ txT (.walk w) ++ post) (pre.length + 1) (pre.length + 1 + w.length) (by omega)
    rw [show (pre.length : Int) + 1 = ((pre.length + 1 : Nat) : Int) from rfl, this, e1, Nat.add_sub_cancel_left, List.take_append_of_le_length (Nat.le_refl _), List.take_length]
  refine ⟨_, rfl, _, rfl, _, _, rfl, rfl, _, rfl, _, rfl, _, rfl, _, rfl, by omega, ?_⟩
  rw [ec]
  refine ⟨_, rfl, _, _, rfl, rfl, _, rfl, iteN (decide_eq_false (by omega)) ?_⟩
  refine ⟨_, rfl, w, rfl, ?_⟩
  refine comp_fix (xs := sgs w) (fun i acc H' => Same H H' /\ acc = (List.replicate i true).map V.bl) (by rw [sgs_len]; omega) ⟨Same.refl _, rfl⟩ ?_ ?_
  · rintro i x acc H1 Nx hi hx hl ⟨s1, rfl⟩ nx
    obtain ⟨c, hc, rfl⟩ := sgs_get hx
    refine ⟨trivial, yes_ite ⟨_, rfl, c, rfl, nx _ _ (by simpa using hl) ⟨s1, ?_⟩⟩⟩
    rw [decide_eq_true (hw.1 c (List.mem_of_getElem? hc)).letters]
    exact yes_snoc i
  rintro acc H1 D hl ⟨s1, rfl⟩ nD
  have s2 := s1.trans (Same.upd (o := HO.lst ((List.replicate (sgs w).length true).map V.bl)) nD)
  refine ⟨D, List.replicate (sgs w).length true, rfl, SqL.of upd_same, ?_⟩
  rw [all_yes]
  refine ⟨_, rfl, iteN rfl ?_⟩
  generalize upd H1 D (HO.lst ((List.replicate (sgs w).length true).map V.bl)) = H2 at s2 ⊢
  refine ⟨_, rfl, by show 2 <= sizeLine; decide, fun a na => ?_⟩
  have s3 := Same.upd (o := HO.tup [V.str (S kWalk), V.str (S w)]) na
  refine ⟨_, rfl, _, _, rfl, rfl, by show 2 <= sizeLine; decide, fun t nt => ?_⟩
  have s4 := Same.upd (o := HO.tup [V.ref a, V.int (((pre.length + 1 + w.length : Nat) : Int) + 1)]) nt
  refine q t a _ ?_ ?_ (s2.trans (s3.trans s4))
  · have e : ((pre.length + 1 + w.length : Nat) : Int) + 1 = ((pre.length + (txT (.walk w)).length : Nat) : Int) := by
      show _ = ((pre.length + (39 :: (w ++ [39])).length : Nat) : Int)
      simp only [List.length_cons, List.length_append, List.length_nil]
      omega
    rw [<- e]
    exact upd_same
  · exact s4 _ _ upd_same
theorem ok_read_kind (T : Txt P w K mg f0 f1 f2 f3 f4 f5 f6 f7 f8 f9 f10 f11 f12 f13 f14 f15 f17 f18 f19 f20 f21 f22 f23 f24 f25 f26 k_COUNTS k_SIGNS d0 d1 d2 d3 d4 d5 d6 d7 d8 d9 d10 d11 d12 d13 d14 d15 d17 d18 d19 d20 d21 d22 d23 d24 d25 d26) : FnOk P w K mg base CX0 1 f7 d7 ["row", "start"] (sp_read_kind K) := by
  refine T.F7.fn.ok sc_read_kind (fun vs H Q E h => len_read_kind h) (fun cdv A outer s H vs Q E hr h => ?_)
  refine ⟨_, (pss_cons (ps_for PassesOwn.never rfl (pi_kd K P w rfl rfl rfl (pe_glob (v := .ref k_COUNTS) rfl T.m_COUNTS rfl)) (pg_name (i := 2) sc_read_kind.nd rfl (Or.inl rfl)) (pss_one (ps_if (pt_val (pe_bmK K rfl PySem.F.plainAttrs_str PySem.F.slot_str_startswith PySem.F.type_str_startswith mt_startF (pv 0) (pa_cons (pe_op op_addS (pe_op op_addS (pe_S [40] (by decide +kernel)) (pv 2)) (pe_S [32] (by decide +kernel))) (pa_cons (pv 1) pa_nil)))) (pss_one (ps_ret (pe_tup (pa_cons (pv 2) (pa_cons (pe_op op_add (pe_op op_add (pv 1) pe_int) (pe_callB call_lenS rfl T.z_len PySem.boot_len (pa_cons (pv 2) pa_nil))) pa_nil))))) pss_nil)))
      (pss_one (ps_ret pe_non))), ?_⟩
  obtain ⟨pre, k, post, rfl, hk, hz, q⟩ := h
  have hs : (900001 : Nat) < sizeLine := by decide
  refine ⟨k_COUNTS, kv_COUNTS, rfl, T.d_COUNTS, ?_⟩
  refine for_fix (xs := txs kinds) (fun i σ H' => ∃ v : Option V, σ = [some (.str (S (pre ++ ((40 :: k) ++ 32 :: post)))), some (.int (pre.length : Nat)), v] /\ H' = H /\ ∀ j, j < i -> kinds[j]? ≠ some k)
    ⟨none, rfl, rfl, fun j hj => by omega⟩ ?_ ?_
  · rintro i x σ H1 hx ⟨v, rfl, rfl, hno⟩
    obtain ⟨kd, hkd, rfl⟩ := txs_get hx
    have hkm := List.mem_of_getElem? hkd
    have hkl : kd.length <= 5 := by
      simp only [kinds, List.mem_cons, List.not_mem_nil, or_false] at hkm
      rcases hkm with rfl | rfl | rfl | rfl <;> decide
    refine ⟨_, rfl, rfl, _, rfl, _, _, rfl, rfl, by simp only [List.length_cons, List.length_nil]; omega, _, _, rfl, rfl, by simp only [List.length_append, List.length_cons, List.length_nil]; omega, ?_⟩
    refine ⟨_, rfl, _, _, pre.length, rfl, rfl, ?_⟩
    rw [start_kind hk hkm]
    refine ⟨_, rfl, ite2 (fun z => ?_) (fun z => ?_)⟩
    · have e := of_decide_eq_true z
      subst e
      refine ⟨_, rfl, _, rfl, _, _, rfl, rfl, _, rfl, kd, rfl, by omega, _, _, rfl, rfl, by show 2 <= sizeLine; decide, fun t nt => ?_⟩
      exact q t _ upd_same (Same.upd nt)
    · refine ⟨_, rfl, rfl, fun j hj => ?_⟩
      rcases Nat.lt_or_eq_of_le (Nat.le_of_lt_succ hj) with g | g
      · exact hno j g
      · rw [g, hkd]; exact fun e => z (decide_eq_true (Option.some.inj e))
  · rintro σ H1 ⟨v, rfl, rfl, hno⟩
    obtain ⟨j, hj⟩ := List.getElem?_of_mem hk
    exact absurd hj (hno j (by have := (List.getElem?_eq_some_iff.mp hj).1; rw [txs_len]; exact this))
theorem ok_read_sign (T : Txt P w K mg f0 f1 f2 f3 f4 f5 f6 f7 f8 f9 f10 f11 f12 f13 f14 f15 f17 f18 f19 f20 f21 f22 f23 f24 f25 f26 k_COUNTS k_SIGNS d0 d1 d2 d3 d4 d5 d6 d7 d8 d9 d10 d11 d12 d13 d14 d15 d17 d18 d19 d20 d21 d22 d23 d24 d25 d26) : FnOk P w K mg base CX0 1 f8 d8 ["kind", "row", "start"] (sp_read_sign K) := by
  refine T.F8.fn.ok sc_read_sign (fun vs H Q E h => len_read_sign h) (fun cdv A outer s H vs Q E hr h => ?_)
  refine ⟨_, (pss_cons (ps_set (i := 3) sc_read_sign.nd rfl (Or.inl rfl) (pe_slice sl_S (pv 1) (po_some (pe_op op_add (pv 2) pe_int)) (po_some (pe_op op_add (pv 2) pe_int))))
      (pss_cons (ps_if (PW.pt (pw_or (pt_cmpR op_eqS (pv 3) (pe_S [] (by decide +kernel)) (nomark _)) (pw_or1 (pt_cmpR op_ninS (pv 3) (pe_kget K P w rfl rfl rfl (pe_glob (v := .ref k_SIGNS) rfl T.m_SIGNS rfl) (pv 0) (fun _ _ => rfl)) (by with_unfolding_all rfl))))) (pss_one (ps_ret pe_non)) pss_nil)
      (pss_one (ps_ret (pe_tup (pa_cons (pe_ifExp (pt_cmpR op_eqS (pv 0) (pe_S [97, 103, 97, 105, 110] (by decide +kernel)) (nomark _)) (pe_callTy call_intC rfl T.z_int boot_int (pa_cons (pv 3) pa_nil)) (pv 3)) (pa_cons (pe_op op_add (pv 2) pe_int) pa_nil))))))), ?_⟩
  obtain ⟨pre, k, post, c, v, rfl, hz, hk, q⟩ := h
  have hs : (900001 : Nat) < sizeLine := by decide
  have hlen : pre.length + 2 <= (pre ++ ([32, c] ++ post)).length := by simp
  have ec : cut (pre ++ ([32, c] ++ post)) (some ((pre.length : Int) + 1)) (some ((pre.length : Int) + 2)) = [c] := by
    have := cut_md (pre ++ ([32, c] ++ post)) (pre.length + 1) (pre.length + 2) (by omega)
    rw [show (pre.length : Int) + 1 = ((pre.length + 1 : Nat) : Int) from rfl, show (pre.length : Int) + 2 = ((pre.length + 2 : Nat) : Int) from rfl, this]
    have e : pre ++ ([32, c] ++ post) = (pre ++ [32]) ++ (c :: post) := by simp
    rw [e, drop_at (by simp), show pre.length + 2 - (pre.length + 1) = 1 by omega]
    rfl
  refine ⟨_, rfl, _, rfl, _, _, rfl, rfl, _, rfl, _, rfl, _, _, rfl, rfl, _, rfl, _, rfl, by omega, ?_⟩
  rw [ec]
  refine ⟨_, rfl, _, _, rfl, rfl, _, rfl, iteN rfl ?_⟩
  rcases hk with ⟨rfl, h1, h2, rfl⟩ | ⟨rfl, h1, rfl⟩
  · refine ⟨_, rfl, _, rfl, k_SIGNS, kv_SIGNS, Sum.inr (S kAgain), _, rfl, T.d_SIGNS, rfl, valV_pos rfl, ?_⟩
    refine ⟨c, _, rfl, rfl, _, rfl, iteN (by rw [decide_eq_true (dig_in h1 h2)]; rfl) ?_⟩
    refine ⟨_, rfl, _, _, rfl, rfl, _, rfl, iteY (decide_eq_true rfl) ?_⟩
    refine ⟨_, rfl, c, rfl, h1, by omega, _, rfl, _, _, rfl, rfl, by show 2 <= sizeLine; decide, fun t nt => ?_⟩
    exact q t _ upd_same (Same.upd nt)
  · refine ⟨_, rfl, _, rfl, k_SIGNS, kv_SIGNS, Sum.inr (S kFor), _, rfl, T.d_SIGNS, rfl, (valV_neg (S_ne (by decide))).trans (valV_pos rfl), ?_⟩
    refine ⟨c, _, rfl, rfl, _, rfl, iteN (by show (!decide (c ∈ smalls)) = false; rw [decide_eq_true h1]; rfl) ?_⟩
    refine ⟨_, rfl, _, _, rfl, rfl, _, rfl, iteN (decide_eq_false (by decide)) ?_⟩
    refine ⟨_, rfl, _, rfl, _, _, rfl, rfl, by show 2 <= sizeLine; decide, fun t nt => ?_⟩
    exact q t _ upd_same (Same.upd nt)
theorem ok_read_terms (T : Txt P w K mg f0 f1 f2 f3 f4 f5 f6 f7 f8 f9 f10 f11 f12 f13 f14 f15 f17 f18 f19 f20 f21 f22 f23 f24 f25 f26 k_COUNTS k_SIGNS d0 d1 d2 d3 d4 d5 d6 d7 d8 d9 d10 d11 d12 d13 d14 d15 d17 d18 d19 d20 d21 d22 d23 d24 d25 d26) (n : Nat) (ih : FnOk P w K mg base CX0 (4 + 3 * n) f11 d11 ["row", "start"] (sp_read_term K n)) : FnOk P w K mg base CX0 (4 + 3 * n + 1) f9 d9 ["count", "row", "start"] (sp_read_terms K n) := by
  refine T.F9.fn.ok sc_read_terms (fun vs H Q E h => len_read_terms h) (fun cdv A outer s H vs Q E hr h => ?_)
  refine ⟨_, (pss_cons (ps_set (i := 3) sc_read_terms.nd rfl (Or.inl rfl) (pe_lst pa_nil))
      (pss_cons (ps_set (i := 4) sc_read_terms.nd rfl (Or.inl rfl) (pv 2))
      (pss_cons (ps_for PassesOwn.never rfl (pi_range1 rfl T.z_range (pa_cons (pv 0) pa_nil)) (pg_name (i := 5) sc_read_terms.nd rfl (Or.inl rfl)) (pss_cons (ps_set (i := 6) sc_read_terms.nd rfl (Or.inl rfl) (pe_ifExp (pt_cmpR op_eqS (pe_slice sl_S (pv 1) (po_some (pv 4)) (po_some (pe_op op_add (pv 4) pe_int))) (pe_S [32] (by decide +kernel)) (nomark _)) (pe_call ih hr rfl T.F11.mg T.F11.fn.kp T.F11.bd .nil pass0 (pa_cons (pv 1) (pa_cons (pe_op op_add (pv 4) pe_int) pa_nil))) pe_non))
      (pss_cons (ps_if (pt_cmpR op_isN (pv 6) pe_non (nomark _)) (pss_one (ps_ret pe_non)) pss_nil)
      (pss_cons (ps_expr (pe_bmK K rfl PySem.F.plainAttrs_list PySem.F.slot_list_append PySem.F.type_list_append mt_append (pv 3) (pa_cons (pe_ix (ix_tupK K rfl) (pv 6) pe_int (fun _ _ => rfl)) pa_nil)))
      (pss_one (ps_set (i := 4) sc_read_terms.nd rfl (Or.inl rfl) (pe_ix (ix_tupK K rfl) (pv 6) pe_int (fun _ _ => rfl))))))))
      (pss_one (ps_ret (pe_tup (pa_cons (pv 3) (pa_cons (pv 4) pa_nil)))))))), ?_⟩
  obtain ⟨pre, post, ts, rfl, ht, hn, hl, hp, hz, q⟩ := h
  have hs : (900001 : Nat) < sizeLine := by decide
  refine ⟨Nat.zero_le _, fun p1 n1 => ?_⟩
  have s1 := Same.upd (o := HO.lst []) n1
  have hp1 : upd H p1 (HO.lst []) p1 = some (HO.lst (rfs [])) := upd_same
  refine ⟨_, rfl, ?_⟩
  refine ⟨_, rfl, _, rfl, by omega, by omega, ?_⟩
  refine for_range (fun i σ H' => ∃ (as : List Addr) (nv rv : Option V), σ = [some (.int (ts.length : Nat)), some (.str (S (pre ++ (tls ts ++ post)))), some (.int (pre.length : Nat)), some (.ref p1), some (.int ((pre.length + (tls (ts.take i)).length : Nat) : Int)), nv, rv] /\ H' p1 = some (.lst (rfs as)) /\ TmsAt H' as (ts.take i) /\ Same H H')
    ⟨[], none, none, rfl, hp1, trivial, s1⟩ ?_ ?_
  · rintro i σ H1 hi ⟨as, nv, rv, rfl, hl1, htm, s⟩
    have hi2 : i < ts.length := by omega
    have hg := List.getElem?_eq_getElem hi2
    have htt := ht _ (List.getElem_mem hi2)
    generalize ts[i] = t at hg htt
    have et : ts = ts.take i ++ t :: ts.drop (i + 1) := by
      conv => lhs; rw [<- List.take_append_drop i ts, List.drop_eq_getElem_cons hi2]
      rw [(List.getElem?_eq_some_iff.mp hg).2]
    have er : pre ++ (tls ts ++ post) = (pre ++ tls (ts.take i)) ++ (32 :: (txT t ++ (tls (ts.drop (i + 1)) ++ post))) := by
      conv => lhs; rw [et]
      rw [tls_app, tls_cons]
      simp
    have hB : (pre ++ tls (ts.take i) ++ [32]).length = pre.length + (tls (ts.take i)).length + 1 := by simp; omega
    have er2 : pre ++ (tls ts ++ post) = (pre ++ tls (ts.take i) ++ [32]) ++ txT t ++ (tls (ts.drop (i + 1)) ++ post) := by rw [er]; simp
    have ec : cut (pre ++ (tls ts ++ post)) (some ((pre.length + (tls (ts.take i)).length : Nat) : Int)) (some (((pre.length + (tls (ts.take i)).length : Nat) : Int) + 1)) = [32] := by
      have := cut_md (pre ++ (tls ts ++ post)) (pre.length + (tls (ts.take i)).length) (pre.length + (tls (ts.take i)).length + 1) (by omega)
      rw [show ((pre.length + (tls (ts.take i)).length : Nat) : Int) + 1 = ((pre.length + (tls (ts.take i)).length + 1 : Nat) : Int) from rfl, this, er, drop_at (by simp), Nat.add_sub_cancel_left]
      rfl
    refine ⟨_, rfl, _, rfl, _, rfl, _, rfl, _, _, rfl, rfl, _, rfl, _, rfl, by omega, ?_⟩
    rw [ec]
    refine ⟨_, _, rfl, rfl, _, rfl, iteY (decide_eq_true rfl) ?_⟩
    refine ⟨_, rfl, _, rfl, _, _, rfl, rfl, pre ++ tls (ts.take i) ++ [32], tls (ts.drop (i + 1)) ++ post, t, ?_, htt.1, htt.2, hn, sep_tls hp, by rw [<- er2]; exact hz, ?_⟩
    · rw [<- er2, hB]; rfl
    rintro T a H2 hT hta s2
    have hl2 := s2 _ _ hl1
    refine ⟨_, rfl, rfl, _, rfl, iteN (decide_eq_false fun z => nomatch z) ?_⟩
    refine ⟨_, rfl, .inl ⟨rfl, _, SqL.of hl2⟩, _, rfl, T, _, _, _, rfl, rfl, SqT.of hT, atI_nat (j := 0) rfl, p1, _, _, rfl, rfl, hl2, ?_, ?_⟩
    · have := htm.len; rw [List.length_take] at this; rw [rfs_len]; omega
    have tU := TSame.updL (o := HO.lst (rfs as ++ [V.ref a])) hl2
    refine ⟨_, rfl, T, _, _, _, rfl, rfl, SqT.of (tU _ _ hT), atI_nat (j := 1) rfl, ?_⟩
    refine ⟨as ++ [a], some (.int (0 + (i : Int))), some (.ref T), ?_, ?_, ?_, same_upd (s.trans s2) n1⟩
    · have e : (pre ++ tls (ts.take i) ++ [32]).length + (txT t).length = pre.length + (tls (ts.take (i + 1))).length := by
        rw [hB, <- take_snoc hg, tls_app, tls_cons]
        simp only [List.length_append, List.length_cons, tls, List.flatMap_nil, List.length_nil]
        omega
      rw [<- e]
      rfl
    · rw [upd_same]; unfold rfs; rw [List.map_append]; rfl
    · rw [<- take_snoc hg]
      exact tms_snoc (hta.ts tU) (htm.ts ((TSame.of s2).trans tU))
  · rintro σ H1 ⟨as, nv, rv, rfl, hl1, htm, s⟩
    have e0 : ((ts.length : Int)).toNat = ts.length := by omega
    rw [e0, List.take_length] at htm
    refine ⟨_, rfl, _, rfl, by show 2 <= sizeLine; decide, fun t nt => ?_⟩
    rw [e0, List.take_length]
    have s3 := Same.upd (o := HO.tup [V.ref p1, V.int ((pre.length + (tls ts).length : Nat) : Int)]) nt
    exact q t p1 as _ upd_same (s3 _ _ hl1) (htm.ts (TSame.of s3)) (s.trans s3)
theorem ok_read_made (T : Txt P w K mg f0 f1 f2 f3 f4 f5 f6 f7 f8 f9 f10 f11 f12 f13 f14 f15 f17 f18 f19 f20 f21 f22 f23 f24 f25 f26 k_COUNTS k_SIGNS d0 d1 d2 d3 d4 d5 d6 d7 d8 d9 d10 d11 d12 d13 d14 d15 d17 d18 d19 d20 d21 d22 d23 d24 d25 d26) (n : Nat) (ih : FnOk P w K mg base CX0 (4 + 3 * n) f11 d11 ["row", "start"] (sp_read_term K n)) : FnOk P w K mg base CX0 (4 + 3 * n + 2) f10 d10 ["row", "start"] (sp_read_made K n) := by
  have G_read_kind := ok_read_kind (P := P) (w := w) (base := base) T
  have G_read_sign := ok_read_sign (P := P) (w := w) (base := base) T
  have G_read_terms := ok_read_terms (P := P) (w := w) (base := base) T n ih
  refine T.F10.fn.ok sc_read_made (fun vs H Q E h => len_read_made h) (fun cdv A outer s H vs Q E hr h => ?_)
  refine ⟨_, (pss_cons (ps_set (i := 2) sc_read_made.nd rfl (Or.inl rfl) (pe_call G_read_kind (hr.mono (by omega)) rfl T.F7.mg T.F7.fn.kp T.F7.bd .nil pass0 (pa_cons (pv 0) (pa_cons (pv 1) pa_nil))))
      (pss_cons (ps_if (pt_cmpR op_isN (pv 2) pe_non (nomark _)) (pss_one (ps_ret pe_non)) pss_nil)
      (pss_cons (ps_set (i := 3) sc_read_made.nd rfl (Or.inl rfl) (pe_lst (pa_cons (pe_ix (ix_tupK K rfl) (pv 2) pe_int (fun _ _ => rfl)) pa_nil)))
      (pss_cons (ps_if (pt_cmp (pc_kin K P w rfl rfl rfl (pe_ix (ix_tupK K rfl) (pv 2) pe_int (fun _ _ => rfl)) (pe_glob (v := .ref k_SIGNS) rfl T.m_SIGNS rfl)) (by with_unfolding_all rfl)) (pss_cons (ps_set (i := 2) sc_read_made.nd rfl (Or.inl rfl) (pe_call G_read_sign (hr.mono (by omega)) rfl T.F8.mg T.F8.fn.kp T.F8.bd .nil pass0 (pa_cons (pe_ix (ix_tupK K rfl) (pv 2) pe_int (fun _ _ => rfl)) (pa_cons (pv 0) (pa_cons (pe_ix (ix_tupK K rfl) (pv 2) pe_int (fun _ _ => rfl)) pa_nil)))))
      (pss_cons (ps_if (pt_cmpR op_isN (pv 2) pe_non (nomark _)) (pss_one (ps_ret pe_non)) pss_nil)
      (pss_one (ps_expr (pe_bmK K rfl PySem.F.plainAttrs_list PySem.F.slot_list_append PySem.F.type_list_append mt_append (pv 3) (pa_cons (pe_ix (ix_tupK K rfl) (pv 2) pe_int (fun _ _ => rfl)) pa_nil)))))) pss_nil)
      (pss_cons (ps_set (i := 2) sc_read_made.nd rfl (Or.inl rfl) (pe_call G_read_terms (hr.mono (by omega)) rfl T.F9.mg T.F9.fn.kp T.F9.bd .nil pass0 (pa_cons (pe_kget K P w rfl rfl rfl (pe_glob (v := .ref k_COUNTS) rfl T.m_COUNTS rfl) (pe_ix (ix_listK K rfl) (pv 3) pe_int (fun _ _ => rfl)) (fun _ _ => rfl)) (pa_cons (pv 0) (pa_cons (pe_ix (ix_tupK K rfl) (pv 2) pe_int (fun _ _ => rfl)) pa_nil)))))
      (pss_cons (ps_if (PW.pt (pw_or (pt_cmpR op_isN (pv 2) pe_non (nomark _)) (pw_or1 (pt_cmpR op_neS (pe_slice sl_S (pv 0) (po_some (pe_ix (ix_tupK K rfl) (pv 2) pe_int (fun _ _ => rfl))) (po_some (pe_op op_add (pe_ix (ix_tupK K rfl) (pv 2) pe_int (fun _ _ => rfl)) pe_int))) (pe_S [41] (by decide +kernel)) (nomark _))))) (pss_one (ps_ret pe_non)) pss_nil)
      (pss_one (ps_ret (pe_tup (pa_cons (pe_callTy (call_tuple_ofK K rfl) rfl T.z_tuple boot_tuple (pa_cons (pe_op op_cat (pv 3) (pe_ix (ix_tupK K rfl) (pv 2) pe_int (fun _ _ => rfl))) pa_nil)) (pa_cons (pe_op op_add (pe_ix (ix_tupK K rfl) (pv 2) pe_int (fun _ _ => rfl)) pe_int) pa_nil))))))))))), ?_⟩
  obtain ⟨pre, post, t, rfl, hm, ht, hd, hn, hz, q⟩ := h
  have hs : (900001 : Nat) < sizeLine := by decide
  have ex : txT t = (40 :: kdT t) ++ sgx t ++ tls (subs t) ++ [41] := txT_made hm
  obtain ⟨u, us, esub⟩ := sub_ne hm
  have hsl := subs_len t
  obtain ⟨rest, erest⟩ : ∃ rest, sgx t ++ tls (subs t) ++ [41] ++ post = 32 :: rest := by
    rcases sg_cases hm ht with ⟨e1, _, _⟩ | ⟨c, v, e1, _, _⟩
    · rw [e1, esub, tls_cons]; exact ⟨_, rfl⟩
    · rw [e1]; exact ⟨_, rfl⟩
  have er1 : pre ++ txT t ++ post = pre ++ ((40 :: kdT t) ++ 32 :: rest) := by rw [ex, <- erest]; simp
  have er3 : pre ++ txT t ++ post = (pre ++ (40 :: kdT t) ++ sgx t) ++ (tls (subs t) ++ 41 :: post) := by rw [ex]; simp
  have hlen : (pre ++ txT t ++ post).length = pre.length + (txT t).length + post.length := by simp; omega
  refine ⟨_, rfl, _, rfl, pre, kdT t, rest, by rw [<- er1]; rfl, kd_kinds hm, by rw [<- er1]; exact hz, fun T0 H1 hT0 s1 => ?_⟩
  refine ⟨_, rfl, rfl, _, rfl, iteN (decide_eq_false fun z => nomatch z) ?_⟩
  refine ⟨_, rfl, T0, _, _, _, rfl, rfl, SqT.of hT0, atI_nat (j := 0) rfl, by show 1 <= sizeLine; decide, fun p1 n1 => ?_⟩
  have sp1 := Same.upd (o := HO.lst [V.str (S (kdT t))]) n1
  have hp1 : upd H1 p1 (HO.lst [V.str (S (kdT t))]) p1 = some (HO.lst [V.str (S (kdT t))]) := upd_same
  have n0 : H p1 = none := Same.free s1 n1
  have hT2 := sp1 _ _ hT0
  have s02 := s1.trans sp1
  generalize upd H1 p1 (HO.lst [V.str (S (kdT t))]) = H2 at sp1 hp1 hT2 s02 ⊢
  apply cutA (P := fun T H' => ∃ x : V, H' T = some (.tup [x, .int (((pre ++ (40 :: kdT t) ++ sgx t).length : Nat) : Int)]) /\ H' p1 = some (.lst (hdV t)) /\ Same H H')
  · intro key
    rcases sg_cases hm ht with ⟨e1, e2, e3⟩ | ⟨c, v, e1, e2, e3⟩
    rotate_left
    · have hin : (valV kv_SIGNS (Sum.inr (S (kdT t)))).isSome = true := by
        rcases e3 with ⟨g, _⟩ | ⟨g, _⟩
        · rw [g]; exact congrArg Option.isSome (valV_pos rfl)
        · rw [g]; exact congrArg Option.isSome ((valV_neg (S_ne (by decide))).trans (valV_pos rfl))
      refine ⟨_, rfl, T0, _, _, _, rfl, rfl, SqT.of hT2, atI_nat (j := 0) rfl, k_SIGNS, kv_SIGNS, Sum.inr (S (kdT t)), rfl, T.d_SIGNS, rfl, ?_⟩
      rw [hin]
      refine ⟨_, rfl, iteY rfl ?_⟩
      have er2 : pre ++ txT t ++ post = (pre ++ (40 :: kdT t)) ++ ([32, c] ++ (tls (subs t) ++ 41 :: post)) := by rw [er3, e1]; simp
      have hB : (pre ++ (40 :: kdT t)).length = pre.length + 1 + (kdT t).length := by simp; omega
      refine ⟨_, rfl, T0, _, _, _, rfl, rfl, SqT.of hT2, atI_nat (j := 0) rfl, _, rfl, _, rfl, T0, _, _, _, rfl, rfl, SqT.of hT2, atI_nat (j := 1) rfl, ?_⟩
      refine ⟨pre ++ (40 :: kdT t), kdT t, tls (subs t) ++ 41 :: post, c, v, by rw [<- er2, hB]; rfl, by rw [<- er2]; exact hz, e3, fun T2 H4 hT4 s4 => ?_⟩
      have hp4 := s4 _ _ hp1
      refine ⟨_, rfl, rfl, _, rfl, iteN (decide_eq_false fun z => nomatch z) ?_⟩
      refine ⟨_, rfl, .inl ⟨rfl, _, SqL.of hp4⟩, _, rfl, T2, _, _, _, rfl, rfl, SqT.of hT4, atI_nat (j := 0) rfl, p1, _, _, rfl, rfl, hp4, by show 1 < sizeLine; decide, ?_⟩
      have tU := TSame.updL (o := HO.lst ([V.str (S (kdT t))] ++ [v])) hp4
      have h5 : upd H4 p1 (HO.lst ([V.str (S (kdT t))] ++ [v])) p1 = some (.lst (hdV t)) := by rw [upd_same]; unfold hdV; rw [e2]; rfl
      have s05 := same_upd (o := HO.lst ([V.str (S (kdT t))] ++ [v])) (s02.trans s4) n0
      have hT5 := tU _ _ hT4
      generalize upd H4 p1 (HO.lst ([V.str (S (kdT t))] ++ [v])) = H5 at tU h5 s05 hT5 ⊢
      refine key T2 H5 ⟨v, ?_, h5, s05⟩
      rw [hT5, e1]
      have e : (pre ++ (40 :: kdT t) ++ [32, c]).length = (pre ++ (40 :: kdT t)).length + 2 := by simp; omega
      rw [e]
    · have hin : (valV kv_SIGNS (Sum.inr (S (kdT t)))).isSome = false := by
        rcases e3 with g | g
        · rw [g]; exact congrArg Option.isSome ((valV_neg (S_ne (by decide))).trans ((valV_neg (S_ne (by decide))).trans valV_nil))
        · rw [g]; exact congrArg Option.isSome ((valV_neg (S_ne (by decide))).trans ((valV_neg (S_ne (by decide))).trans valV_nil))
      refine ⟨_, rfl, T0, _, _, _, rfl, rfl, SqT.of hT2, atI_nat (j := 0) rfl, k_SIGNS, kv_SIGNS, Sum.inr (S (kdT t)), rfl, T.d_SIGNS, rfl, ?_⟩
      rw [hin]
      refine ⟨_, rfl, iteN rfl ?_⟩
      refine key T0 H2 ⟨.str (S (kdT t)), ?_, by rw [hp1]; unfold hdV; rw [e2], s02⟩
      rw [hT2, e1]
      have e : (pre ++ (40 :: kdT t) ++ []).length = pre.length + 1 + (kdT t).length := by simp; omega
      rw [e]
  · rintro T1 H3 ⟨x, hT1, hp3, s3⟩
    refine ⟨_, rfl, p1, _, _, _, rfl, rfl, SqL.of hp3, atI_nat (j := 0) rfl, k_COUNTS, kv_COUNTS, Sum.inr (S (kdT t)), _, rfl, T.d_COUNTS, rfl, cnt_of hm, _, rfl, _, rfl, T1, _, _, _, rfl, rfl, SqT.of hT1, atI_nat (j := 1) rfl, ?_⟩
    refine ⟨pre ++ (40 :: kdT t) ++ sgx t, 41 :: post, subs t, by rw [<- er3]; rfl, fun u hu => ⟨subs_F ht hu, subs_dep hd hu⟩, hn, hsl, sep41 _, by rw [<- er3]; exact hz, fun T5 l as H5 hT5 hl5 htm s5 => ?_⟩
    have er4 : pre ++ txT t ++ post = (pre ++ (40 :: kdT t) ++ sgx t ++ tls (subs t)) ++ (41 :: post) := by rw [er3]; simp
    have hE : (pre ++ (40 :: kdT t) ++ sgx t ++ tls (subs t)).length = (pre ++ (40 :: kdT t) ++ sgx t).length + (tls (subs t)).length := List.length_append
    generalize hGE : (pre ++ (40 :: kdT t) ++ sgx t).length + (tls (subs t)).length = e at hT5 hE
    have hR : e + 1 = pre.length + (txT t).length := by
      rw [<- hE, ex]
      simp only [List.length_append, List.length_cons, List.length_nil]
      omega
    have ec : cut (pre ++ txT t ++ post) (some (e : Int)) (some ((e : Int) + 1)) = [41] := by
      have := cut_md (pre ++ txT t ++ post) e (e + 1) (by omega)
      rw [show (e : Int) + 1 = ((e + 1 : Nat) : Int) from rfl, this, er4, drop_at hE, Nat.add_sub_cancel_left]
      rfl
    refine ⟨_, rfl, rfl, _, rfl, iteN (decide_eq_false fun z => nomatch z) ?_⟩
    refine ⟨_, rfl, _, rfl, T5, _, _, _, rfl, rfl, SqT.of hT5, atI_nat (j := 1) rfl, _, rfl, _, rfl, T5, _, _, _, rfl, rfl, SqT.of hT5, atI_nat (j := 1) rfl, _, _, rfl, rfl, _, rfl, _, rfl, by omega, ?_⟩
    rw [ec]
    refine ⟨_, _, rfl, rfl, _, rfl, iteN (by rw [decide_eq_true rfl]; rfl) ?_⟩
    have hp5 := s5 _ _ hp3
    refine ⟨_, rfl, _, rfl, T5, _, _, _, rfl, rfl, SqT.of hT5, atI_nat (j := 0) rfl, p1, l, _, _, rfl, rfl, hp5, hl5, ?_, fun r nr => ?_⟩
    · have h1 : (hdV t).length <= 2 := by
        unfold hdV
        rcases sg_cases hm ht with ⟨_, g, _⟩ | ⟨_, _, _, g, _⟩
        · rw [g]; show 1 <= 2; decide
        · rw [g]; exact Nat.le_refl _
      have h2 := htm.len
      rw [rfs_len]
      omega
    have s6 := Same.upd (o := HO.lst (hdV t ++ rfs as)) nr
    refine ⟨r, _, rfl, .inl ⟨SqL.of upd_same, fun tt ntt => ?_⟩⟩
    have s7 := Same.upd (o := HO.tup (hdV t ++ rfs as)) ntt
    have s57 := s6.trans s7
    refine ⟨_, rfl, T5, _, _, _, rfl, rfl, SqT.of (s57 _ _ hT5), atI_nat (j := 1) rfl, _, _, rfl, rfl, by show 2 <= sizeLine; decide, fun R nR => ?_⟩
    have s8 := Same.upd (o := HO.tup [V.ref tt, V.int ((e : Int) + 1)]) nR
    refine q R tt _ ?_ (tm_of hm (s8 _ _ upd_same) (htm.ts (TSame.of (s57.trans s8)))) ((s3.trans s5).trans (s57.trans s8))
    rw [<- hR]
    exact upd_same
theorem ok_is_name (T : Txt P w K mg f0 f1 f2 f3 f4 f5 f6 f7 f8 f9 f10 f11 f12 f13 f14 f15 f17 f18 f19 f20 f21 f22 f23 f24 f25 f26 k_COUNTS k_SIGNS d0 d1 d2 d3 d4 d5 d6 d7 d8 d9 d10 d11 d12 d13 d14 d15 d17 d18 d19 d20 d21 d22 d23 d24 d25 d26) : FnOk P w K mg base CX0 1 f1 d1 ["text"] (sp_is_name K) := by
  refine T.F1.fn.ok sc_is_name (fun vs H Q E h => len_is_name h) (fun cdv A outer s H vs Q E hr h => ?_)
  refine ⟨_, (pss_one (ps_ret (pe_and (pe_chain op_le op_le pe_int (pe_callB call_lenS rfl T.z_len PySem.boot_len (pa_cons (pv 0) pa_nil)) (pe_gI 6 rfl T.g_LONGEST_NAME)) (pe_one (pe_callB (call_allK K rfl rfl) rfl T.z_all boot_all (pa_cons (pe_compB ["sign"] [none] (pi_str (pv 0)) trivial (fun _ _ _ _ => (pg_name (i := 0) (by decide +kernel : List.Nodup (["sign"] : List Str)) rfl (Or.inl rfl))) (fun _ _ _ _ => pf_nil) (fun _ _ _ _ => (pe_cmpR op_inS (pv 0) (pe_gS [97, 98, 99, 100, 101, 102, 103, 104, 105, 106, 107, 108, 109, 110, 111, 112, 113, 114, 115, 116, 117, 118, 119, 120, 121, 122] rfl T.g_SMALL) (by with_unfolding_all rfl)))) pa_nil)))))), ?_⟩
  obtain ⟨l, rfl, hl, q⟩ := h
  have hs : (900001 : Nat) < sizeLine := by decide
  unfold isNm at q
  refine ⟨_, rfl, l, rfl, by omega, _, _, rfl, rfl, _, rfl, ite2 (fun z1 => ?_) (fun z1 => ?_)⟩
  rotate_left
  · have n1 : ¬ 1 <= l.length := fun g => z1 (decide_eq_true (by omega))
    have := q H (Same.refl _)
    rw [decide_eq_false n1] at this
    exact ⟨_, rfl, iteN rfl this⟩
  have y1 : 1 <= l.length := by have := of_decide_eq_true z1; omega
  rw [decide_eq_true y1] at q
  refine ⟨_, _, rfl, rfl, _, rfl, ite2 (fun z2 => ?_) (fun z2 => ?_)⟩
  rotate_left
  · have n2 : ¬ l.length <= 6 := fun g => z2 (decide_eq_true (by omega))
    have := q H (Same.refl _)
    rw [decide_eq_false n2] at this
    exact this
  have y2 : l.length <= 6 := by have := of_decide_eq_true z2; omega
  rw [decide_eq_true y2] at q
  refine ⟨_, rfl, l, rfl, ?_⟩
  refine comp_fix (xs := sgs l) (fun i acc H' => Same H H' /\ acc = ((l.take i).map fun c => decide (c ∈ smalls)).map V.bl) (by rw [sgs_len]; omega) ⟨Same.refl _, rfl⟩ ?_ ?_
  · rintro i x acc H1 Nx hi hx hz ⟨s1, rfl⟩ nx
    obtain ⟨c, hc, rfl⟩ := sgs_get hx
    refine ⟨trivial, yes_ite ⟨_, rfl, c, smalls, rfl, rfl, nx _ _ (by simpa using hz) ⟨s1, ?_⟩⟩⟩
    rw [<- take_snoc hc, List.map_append, List.map_append]
    rfl
  rintro acc H1 D hz ⟨s1, rfl⟩ nD
  rw [sgs_len, List.take_length]
  refine ⟨D, l.map fun c => decide (c ∈ smalls), rfl, SqL.of upd_same, ?_⟩
  have := q _ (s1.trans (Same.upd (o := HO.lst ((l.map fun c => decide (c ∈ smalls)).map V.bl)) nD))
  have e : (l.map fun c => decide (c ∈ smalls)).all id = l.all fun c => decide (c ∈ smalls) := by rw [List.all_map]; rfl
  rw [e]
  exact this
theorem ok_is_row_name (T : Txt P w K mg f0 f1 f2 f3 f4 f5 f6 f7 f8 f9 f10 f11 f12 f13 f14 f15 f17 f18 f19 f20 f21 f22 f23 f24 f25 f26 k_COUNTS k_SIGNS d0 d1 d2 d3 d4 d5 d6 d7 d8 d9 d10 d11 d12 d13 d14 d15 d17 d18 d19 d20 d21 d22 d23 d24 d25 d26) : FnOk P w K mg base CX0 2 f4 d4 ["text"] (sp_is_row_name K) := by
  have G_is_name := ok_is_name (P := P) (w := w) (base := base) T
  refine T.F4.fn.ok sc_is_row_name (fun vs H Q E h => len_is_row_name h) (fun cdv A outer s H vs Q E hr h => ?_)
  refine ⟨_, (pss_one (ps_ret (pe_and (pe_call G_is_name (hr.mono (by decide)) rfl T.F1.mg T.F1.fn.kp T.F1.bd .nil pass0 (pa_cons (pv 0) pa_nil)) (pe_one (pe_cmp (pc_knin K P w rfl rfl rfl (pv 0) (pe_glob (v := .ref k_COUNTS) rfl T.m_COUNTS rfl)) (by with_unfolding_all rfl)))))), ?_⟩
  obtain ⟨l, rfl, hl, q⟩ := h
  refine ⟨_, rfl, l, rfl, hl, fun H1 s1 => ?_⟩
  have q1 := q H1 s1
  unfold isRN at q1
  refine ⟨_, rfl, ite2 (fun z => ?_) (fun z => ?_)⟩
  · refine ⟨_, rfl, k_COUNTS, kv_COUNTS, Sum.inr (S l), rfl, T.d_COUNTS, rfl, ?_⟩
    have e : (valV kv_COUNTS (Sum.inr (S l))).isSome = decide (l ∈ kinds) := kv_in l
    rw [e]
    rw [z] at q1
    by_cases g : l ∈ kinds
    · rw [decide_eq_true g]; rw [decide_eq_false (fun w => w g)] at q1; exact q1
    · rw [decide_eq_false g]; rw [decide_eq_true g] at q1; exact q1
  · rw [Bool.eq_false_iff.mpr z] at q1
    exact q1
theorem ok_read_name (T : Txt P w K mg f0 f1 f2 f3 f4 f5 f6 f7 f8 f9 f10 f11 f12 f13 f14 f15 f17 f18 f19 f20 f21 f22 f23 f24 f25 f26 k_COUNTS k_SIGNS d0 d1 d2 d3 d4 d5 d6 d7 d8 d9 d10 d11 d12 d13 d14 d15 d17 d18 d19 d20 d21 d22 d23 d24 d25 d26) : FnOk P w K mg base CX0 3 f6 d6 ["row", "start"] (sp_read_name K) := by
  have G_is_row_name := ok_is_row_name (P := P) (w := w) (base := base) T
  refine T.F6.fn.ok sc_read_name (fun vs H Q E h => len_read_name h) (fun cdv A outer s H vs Q E hr h => ?_)
  refine ⟨_, (pss_cons (ps_set (i := 2) sc_read_name.nd rfl (Or.inl rfl) (pv 1))
      (pss_cons (ps_whileN PassesOwn.never (PW.pt (pw_and (pt_cmpR op_lt (pv 2) (pe_callB call_lenS rfl T.z_len PySem.boot_len (pa_cons (pv 0) pa_nil)) (nomark _)) (pw_and1 (pt_cmpR op_inS (pe_ix ix_S (pv 0) (pv 2) (fun _ _ => rfl)) (pe_gS [97, 98, 99, 100, 101, 102, 103, 104, 105, 106, 107, 108, 109, 110, 111, 112, 113, 114, 115, 116, 117, 118, 119, 120, 121, 122] rfl T.g_SMALL) (by with_unfolding_all rfl))))) (pss_one (ps_aug (i := 2) sc_read_name.nd rfl (Or.inl rfl) pe_int ip_add)))
      (pss_cons (ps_if (pt_not (pt_val (pe_call G_is_row_name (hr.mono (by decide)) rfl T.F4.mg T.F4.fn.kp T.F4.bd .nil pass0 (pa_cons (pe_slice sl_S (pv 0) (po_some (pv 1)) (po_some (pv 2))) pa_nil)))) (pss_one (ps_ret pe_non)) pss_nil)
      (pss_one (ps_ret (pe_tup (pa_cons (pe_tup (pa_cons (pe_S [110, 97, 109, 101] (by decide +kernel)) (pa_cons (pe_slice sl_S (pv 0) (po_some (pv 1)) (po_some (pv 2))) pa_nil))) (pa_cons (pv 2) pa_nil)))))))), ?_⟩
  obtain ⟨pre, s, post, rfl, hn, hp, hz, q⟩ := h
  have hs : (900001 : Nat) < sizeLine := by decide
  have hsz := hn.sz
  have e0 : pre ++ txT (.name s) ++ post = pre ++ (s ++ post) := by show pre ++ s ++ post = _; rw [List.append_assoc]
  have hl0 : (pre ++ txT (.name s) ++ post).length = pre.length + s.length + post.length := by rw [e0]; simp; omega
  have ec : cut (pre ++ txT (.name s) ++ post) (some (pre.length : Int)) (some ((pre.length + s.length : Nat) : Int)) = s := by
    rw [cut_md _ _ _ (by omega), e0, drop_at rfl, Nat.add_sub_cancel_left, List.take_append_of_le_length (Nat.le_refl _), List.take_length]
  refine ⟨_, rfl, ?_⟩
  refine ⟨fun m σ H' => ∃ k : Nat, σ = [some (.str (S (pre ++ txT (.name s) ++ post))), some (.int (pre.length : Nat)), some (.int ((pre.length + k : Nat) : Int))] /\ m = s.length - k /\ k <= s.length /\ H' = H, ⟨_, 0, rfl, rfl, Nat.zero_le _, rfl⟩, ?_⟩
  rintro m σ H2 ⟨k, rfl, rfl, hk, rfl⟩
  have fin : k = s.length -> tSeq (tIfS (tNot (tB (tCall (sp_is_row_name K) [] E0 (tCons (tSl rSlS (tVar 0) (tPart (tVar 1)) (tPart (tVar 2))) tNil)))) (tRet (tC V.non)) tNext) (tRet (tTup (tCons (tTup (tCons (tC (V.str (S [110, 97, 109, 101]))) (tCons (tSl rSlS (tVar 0) (tPart (tVar 1)) (tPart (tVar 2))) tNil))) (tCons (tVar 2) tNil)))) { nx := fun x H' => Q V.non H', rt := Q } [some (.str (S (pre ++ txT (.name s) ++ post))), some (.int (pre.length : Nat)), some (.int ((pre.length + k : Nat) : Int))] H2 := fun ek => by
    subst ek
    refine ⟨_, rfl, _, rfl, _, rfl, _, rfl, _, rfl, _, rfl, by omega, ?_⟩
    rw [ec]
    refine ⟨s, rfl, by omega, fun H3 s3 => ?_⟩
    rw [hn.is]
    refine ⟨_, rfl, iteN rfl ?_⟩
    refine ⟨_, rfl, _, rfl, _, rfl, _, rfl, _, rfl, _, rfl, by omega, ?_⟩
    rw [ec]
    refine ⟨by show 2 <= sizeLine; decide, fun a na => ?_⟩
    have s4 := Same.upd (o := HO.tup [V.str (S kName), V.str (S s)]) na
    refine ⟨_, rfl, by show 2 <= sizeLine; decide, fun t nt => ?_⟩
    have s5 := Same.upd (o := HO.tup [V.ref a, V.int ((pre.length + s.length : Nat) : Int)]) nt
    exact q t a _ upd_same (s5 _ _ upd_same) (s3.trans (s4.trans s5))
  have at_ : (pre ++ txT (.name s) ++ post)[pre.length + k]? = (s ++ post)[k]? := by
    rw [e0, List.getElem?_append_right (by omega), Nat.add_sub_cancel_left]
  rcases Nat.lt_or_eq_of_le hk with g | g
  · have hg := List.getElem?_eq_getElem g
    have hc := hn.lt _ (List.getElem_mem g)
    generalize s[k] = c at hg hc
    rw [List.getElem?_append_left g, hg] at at_
    refine ⟨_, rfl, _, rfl, _, rfl, by omega, _, _, rfl, rfl, _, rfl, iteY (decide_eq_true (by omega)) ?_⟩
    refine ⟨_, rfl, _, rfl, _, _, c, rfl, rfl, by omega, atI_nat at_, c, smalls, rfl, rfl, _, rfl, iteY (decide_eq_true hc) ?_⟩
    refine ⟨_, rfl, _, _, rfl, rfl, _, ?_, k + 1, ?_, rfl, by omega, rfl⟩
    · omega
    · rw [show ((pre.length + (k + 1) : Nat) : Int) = ((pre.length + k : Nat) : Int) + 1 by omega]; rfl
  · by_cases hpo : post = []
    · have hl1 : (pre ++ txT (.name s) ++ post).length = pre.length + k := by rw [hl0, hpo, g]; rfl
      refine ⟨_, rfl, _, rfl, _, rfl, by omega, _, _, rfl, rfl, _, rfl, iteN (decide_eq_false (by omega)) ?_⟩
      exact iteN rfl (fin g)
    · obtain ⟨d, ds, hpo⟩ := List.exists_cons_of_ne_nil hpo
      have hd : d ∉ smalls := hp d (by rw [hpo]; rfl)
      have hl1 : pre.length + k < (pre ++ txT (.name s) ++ post).length := by rw [hl0, hpo, g]; simp
      have at2 : (s ++ post)[k]? = some d := by rw [List.getElem?_append_right (by omega), g, Nat.sub_self, hpo]; rfl
      rw [at2] at at_
      refine ⟨_, rfl, _, rfl, _, rfl, by omega, _, _, rfl, rfl, _, rfl, iteY (decide_eq_true (by omega)) ?_⟩
      refine ⟨_, rfl, _, rfl, _, _, d, rfl, rfl, by omega, atI_nat at_, d, smalls, rfl, rfl, _, rfl, iteN (decide_eq_false hd) ?_⟩
      exact fin g
theorem step_read_term (T : Txt P w K mg f0 f1 f2 f3 f4 f5 f6 f7 f8 f9 f10 f11 f12 f13 f14 f15 f17 f18 f19 f20 f21 f22 f23 f24 f25 f26 k_COUNTS k_SIGNS d0 d1 d2 d3 d4 d5 d6 d7 d8 d9 d10 d11 d12 d13 d14 d15 d17 d18 d19 d20 d21 d22 d23 d24 d25 d26) (n : Nat) (ih : FnOk P w K mg base CX0 (4 + 3 * n) f11 d11 ["row", "start"] (sp_read_term K n)) : FnOk P w K mg base CX0 (4 + 3 * n + 3) f11 d11 ["row", "start"] (sp_read_term K (n + 1)) := by
  have G_read_walk := ok_read_walk (P := P) (w := w) (base := base) T
  have G_read_made := ok_read_made (P := P) (w := w) (base := base) T n ih
  have G_read_name := ok_read_name (P := P) (w := w) (base := base) T
  refine T.F11.fn.ok sc_read_term (fun vs H Q E h => len_read_term h) (fun cdv A outer s H vs Q E hr h => ?_)
  refine ⟨_, (pss_cons (ps_if (pt_val (pe_bmK K rfl PySem.F.plainAttrs_str PySem.F.slot_str_startswith PySem.F.type_str_startswith mt_startF (pv 0) (pa_cons (pe_gS [39] rfl T.g_STROKE) (pa_cons (pv 1) pa_nil)))) (pss_one (ps_ret (pe_call G_read_walk (hr.mono (by omega)) rfl T.F5.mg T.F5.fn.kp T.F5.bd .nil pass0 (pa_cons (pv 0) (pa_cons (pv 1) pa_nil))))) pss_nil)
      (pss_cons (ps_if (pt_val (pe_bmK K rfl PySem.F.plainAttrs_str PySem.F.slot_str_startswith PySem.F.type_str_startswith mt_startF (pv 0) (pa_cons (pe_S [40] (by decide +kernel)) (pa_cons (pv 1) pa_nil)))) (pss_one (ps_ret (pe_call G_read_made (hr.mono (by omega)) rfl T.F10.mg T.F10.fn.kp T.F10.bd .nil pass0 (pa_cons (pv 0) (pa_cons (pv 1) pa_nil))))) pss_nil)
      (pss_one (ps_ret (pe_call G_read_name (hr.mono (by omega)) rfl T.F6.mg T.F6.fn.kp T.F6.bd .nil pass0 (pa_cons (pv 0) (pa_cons (pv 1) pa_nil))))))), ?_⟩
  obtain ⟨pre, post, t, rfl, ht, hd, hn, hp, hz, q⟩ := h
  have hs : (900001 : Nat) < sizeLine := by decide
  have ea : S (pre ++ txT t ++ post) = S (pre ++ (txT t ++ post)) := by rw [List.append_assoc]
  refine ⟨_, rfl, rfl, _, rfl, pre ++ (txT t ++ post), [39], pre.length, by rw [<- ea], rfl, ?_⟩
  rw [start_at]
  by_cases hm : made t
  · obtain ⟨r, hr⟩ := hd_made hm
    refine ⟨_, rfl, iteN (by rw [hr]; exact decide_eq_false fun z => absurd (List.cons.inj z).1 (by decide)) ?_⟩
    refine ⟨_, rfl, rfl, _, rfl, pre ++ (txT t ++ post), [40], pre.length, by rw [<- ea], rfl, ?_⟩
    rw [start_at]
    refine ⟨_, rfl, iteY (by rw [hr]; exact decide_eq_true rfl) ?_⟩
    exact ⟨_, rfl, _, rfl, pre, post, t, rfl, hm, ht, by omega, by omega, hz, q⟩
  · cases t with
    | walk w =>
      refine ⟨_, rfl, iteY (by show decide ((39 :: (w ++ [39]) ++ post).take 1 = [39]) = true; exact decide_eq_true rfl) ?_⟩
      exact ⟨_, rfl, _, rfl, pre, w, post, rfl, ht, hz, q⟩
    | name s =>
      obtain ⟨c, r, e, hc⟩ := hd_name ht
      have n1 : c ≠ 39 := fun z => by rw [z] at hc; revert hc; decide
      have n2 : c ≠ 40 := fun z => by rw [z] at hc; revert hc; decide
      refine ⟨_, rfl, iteN (by show decide ((s ++ post).take 1 = [39]) = false; rw [e]; exact decide_eq_false fun z => n1 (List.cons.inj z).1) ?_⟩
      refine ⟨_, rfl, rfl, _, rfl, pre ++ (txT (.name s) ++ post), [40], pre.length, by rw [<- ea], rfl, ?_⟩
      rw [start_at]
      refine ⟨_, rfl, iteN (by show decide ((s ++ post).take 1 = [40]) = false; rw [e]; exact decide_eq_false fun z => n2 (List.cons.inj z).1) ?_⟩
      exact ⟨_, rfl, _, rfl, pre, s, post, rfl, ht, hp, hz, q⟩
    | back t => exact absurd trivial hm
    | again k t => exact absurd trivial hm
    | thn a b => exact absurd trivial hm
    | fr c a b => exact absurd trivial hm
theorem ok_read_term (T : Txt P w K mg f0 f1 f2 f3 f4 f5 f6 f7 f8 f9 f10 f11 f12 f13 f14 f15 f17 f18 f19 f20 f21 f22 f23 f24 f25 f26 k_COUNTS k_SIGNS d0 d1 d2 d3 d4 d5 d6 d7 d8 d9 d10 d11 d12 d13 d14 d15 d17 d18 d19 d20 d21 d22 d23 d24 d25 d26) : ∀ n, FnOk P w K mg base CX0 (4 + 3 * n) f11 d11 ["row", "start"] (sp_read_term K n)
  | 0 => fn_never fun vs H Q E h => nev_read_term h
  | n + 1 => step_read_term T n (ok_read_term T n)
theorem ok_read_row (T : Txt P w K mg f0 f1 f2 f3 f4 f5 f6 f7 f8 f9 f10 f11 f12 f13 f14 f15 f17 f18 f19 f20 f21 f22 f23 f24 f25 f26 k_COUNTS k_SIGNS d0 d1 d2 d3 d4 d5 d6 d7 d8 d9 d10 d11 d12 d13 d14 d15 d17 d18 d19 d20 d21 d22 d23 d24 d25 d26) : FnOk P w K mg base CX0 29 f12 d12 ["row"] (sp_read_row K) := by
  have G_read_term := ok_read_term (P := P) (w := w) (base := base) T
  have G_is_row_name := ok_is_row_name (P := P) (w := w) (base := base) T
  refine T.F12.fn.ok sc_read_row (fun vs H Q E h => len_read_row h) (fun cdv A outer s H vs Q E hr h => ?_)
  refine ⟨_, (pss_cons (ps_set (i := 1) sc_read_row.nd rfl (Or.inl rfl) (pe_bmK K rfl PySem.F.plainAttrs_str PySem.F.slot_str_partition PySem.F.type_str_partition mt_partF (pv 0) (pa_cons (pe_gS [32, 61, 32] rfl T.g_IS) pa_nil)))
      (pss_cons (ps_set (i := 2) sc_read_row.nd rfl (Or.inl rfl) (pe_call (G_read_term 8) (hr.mono (by decide)) rfl T.F11.mg T.F11.fn.kp T.F11.bd .nil pass0 (pa_cons (pe_ix (ix_tupK K rfl) (pv 1) pe_int (fun _ _ => rfl)) (pa_cons pe_int pa_nil))))
      (pss_cons (ps_if (PW.pt (pw_or (pt_not (pt_val (pe_call G_is_row_name (hr.mono (by decide)) rfl T.F4.mg T.F4.fn.kp T.F4.bd .nil pass0 (pa_cons (pe_ix (ix_tupK K rfl) (pv 1) pe_int (fun _ _ => rfl)) pa_nil)))) (pw_or (pt_cmpR op_isN (pv 2) pe_non (nomark _)) (pw_or1 (pt_cmpR op_lt (pe_ix (ix_tupK K rfl) (pv 2) pe_int (fun _ _ => rfl)) (pe_callB call_lenS rfl T.z_len PySem.boot_len (pa_cons (pe_ix (ix_tupK K rfl) (pv 1) pe_int (fun _ _ => rfl)) pa_nil)) (nomark _)))))) (pss_one (ps_ret pe_non)) pss_nil)
      (pss_one (ps_ret (pe_tup (pa_cons (pe_ix (ix_tupK K rfl) (pv 1) pe_int (fun _ _ => rfl)) (pa_cons (pe_ix (ix_tupK K rfl) (pv 2) pe_int (fun _ _ => rfl)) pa_nil)))))))), ?_⟩
  obtain ⟨nm, t, rfl, hn, ht, hd, q⟩ := h
  have hs : (900001 : Nat) < sizeLine := by decide
  have hsz := hn.sz
  have hl := txT_10 ht hd (by decide)
  have n32 : 32 ∉ nm := fun z => by have := hn.lt 32 z; revert this; decide
  have er : rowT (nm, t) = nm ++ (32 :: [61, 32]) ++ txT t := rfl
  have hl2 : (nm ++ (32 :: [61, 32]) ++ txT t).length = nm.length + 3 + (txT t).length := by simp; omega
  rw [er]
  refine ⟨_, rfl, rfl, nm, txT t, [61, 32], 32, rfl, rfl, n32, by omega, fun T nT => ?_⟩
  have s1 := Same.upd (o := HO.tup [V.str (S nm), V.str (S (32 :: [61, 32])), V.str (S (txT t))]) nT
  have hT : upd H T (HO.tup [V.str (S nm), V.str (S (32 :: [61, 32])), V.str (S (txT t))]) T = some (HO.tup [V.str (S nm), V.str (S (32 :: [61, 32])), V.str (S (txT t))]) := upd_same
  generalize upd H T (HO.tup [V.str (S nm), V.str (S (32 :: [61, 32])), V.str (S (txT t))]) = H1 at s1 hT ⊢
  refine ⟨_, rfl, T, _, _, _, rfl, rfl, SqT.of hT, atI_nat (j := 2) rfl, ?_⟩
  refine ⟨[], [], t, by simp, ht, by omega, by decide, sep0, by simp; omega, ?_⟩
  intro R a H2 hR hta s2
  have hT2 := s2 _ _ hT
  refine ⟨_, rfl, T, _, _, _, rfl, rfl, SqT.of hT2, atI_nat (j := 0) rfl, nm, rfl, by omega, fun H3 s3 => ?_⟩
  rw [hn.is]
  refine ⟨_, rfl, iteN rfl ?_⟩
  refine ⟨_, rfl, rfl, _, rfl, iteN (decide_eq_false fun z => nomatch z) ?_⟩
  have hT3 := s3 _ _ hT2
  have hR3 := s3 _ _ hR
  refine ⟨_, rfl, R, _, _, _, rfl, rfl, SqT.of hR3, atI_nat (j := 1) rfl, _, rfl, T, _, _, _, rfl, rfl, SqT.of hT3, atI_nat (j := 2) rfl, txT t, rfl, by omega, _, _, rfl, rfl, _, rfl, iteN (decide_eq_false (by simp)) ?_⟩
  refine ⟨_, rfl, T, _, _, _, rfl, rfl, SqT.of hT3, atI_nat (j := 0) rfl, _, rfl, R, _, _, _, rfl, rfl, SqT.of hR3, atI_nat (j := 0) rfl, by show 2 <= sizeLine; decide, fun r nr => ?_⟩
  have s4 := Same.upd (o := HO.tup [V.str (S nm), V.ref a]) nr
  exact q r a _ upd_same (hta.ts (TSame.of (s3.trans s4))) (s1.trans (s2.trans (s3.trans s4)))
theorem ok_read_program (T : Txt P w K mg f0 f1 f2 f3 f4 f5 f6 f7 f8 f9 f10 f11 f12 f13 f14 f15 f17 f18 f19 f20 f21 f22 f23 f24 f25 f26 k_COUNTS k_SIGNS d0 d1 d2 d3 d4 d5 d6 d7 d8 d9 d10 d11 d12 d13 d14 d15 d17 d18 d19 d20 d21 d22 d23 d24 d25 d26) : FnOk P w K mg base CX0 30 f13 d13 ["text"] (sp_read_program K) := by
  have G_read_row := ok_read_row (P := P) (w := w) (base := base) T
  refine T.F13.fn.ok sc_read_program (fun vs H Q E h => len_read_program h) (fun cdv A outer s H vs Q E hr h => ?_)
  refine ⟨_, (pss_cons (ps_set (i := 1) sc_read_program.nd rfl (Or.inl rfl) (pe_lst pa_nil))
      (pss_cons (ps_for PassesOwn.never rfl (pi_enumL K rfl rfl T.z_enumerate (pa_cons (pe_bmK K rfl PySem.F.plainAttrs_str PySem.F.slot_str_split PySem.F.type_str_split (mt_splitC 10) (pv 0) (pa_cons (pe_S [10] (by decide +kernel)) pa_nil)) pa_nil)) (pg_tupK (n := 2) K rfl rfl (pgs_cons (pg_name (i := 2) sc_read_program.nd rfl (Or.inl rfl)) (pgs_cons (pg_name (i := 3) sc_read_program.nd rfl (Or.inl rfl)) pgs_nil))) (pss_cons (ps_set (i := 4) sc_read_program.nd rfl (Or.inl rfl) (pe_call G_read_row (hr.mono (by decide)) rfl T.F12.mg T.F12.fn.kp T.F12.bd .nil pass0 (pa_cons (pv 3) pa_nil)))
      (pss_cons (ps_if (pt_cmpR op_isN (pv 4) pe_non (nomark _)) (pss_one ps_never) pss_nil)
      (pss_one (ps_expr (pe_bmK K rfl PySem.F.plainAttrs_list PySem.F.slot_list_append PySem.F.type_list_append mt_append (pv 1) (pa_cons (pv 4) pa_nil)))))))
      (pss_one (ps_ret (pe_callTy (call_tuple_ofK K rfl) rfl T.z_tuple boot_tuple (pa_cons (pv 1) pa_nil)))))), ?_⟩
  obtain ⟨rs, rfl, hr2, hz, q⟩ := h
  have hs : (900001 : Nat) < sizeLine := by decide
  obtain ⟨hne, hfw, hall⟩ := hr2
  have esp : (spl 10 (txP rs)).map (fun l => V.str (S l)) = txs (rs.map rowT) := by
    unfold txP
    rw [spl_join (by simpa using hne) fun p hp => by
      obtain ⟨r, hr, rfl⟩ := List.mem_map.mp hp
      exact row10 (hall r hr).1 (hall r hr).2.1]
    rfl
  refine ⟨Nat.zero_le _, fun p1 n1 => ?_⟩
  have s1 := Same.upd (o := HO.lst []) n1
  refine ⟨_, rfl, rfl, _, rfl, rfl, by omega, fun pl npl => ?_⟩
  rw [esp]
  have s2 := Same.upd (o := HO.lst (txs (rs.map rowT))) npl
  have hpl : upd (upd H p1 (HO.lst [])) pl (HO.lst (txs (rs.map rowT))) pl = some (HO.lst (txs (rs.map rowT))) := upd_same
  have hp1 := s2 p1 _ upd_same
  have hne1 : pl ≠ p1 := fun z => by rw [z] at npl; rw [upd_same] at npl; cases npl
  have s02 := s1.trans s2
  generalize upd (upd H p1 (HO.lst [])) pl (HO.lst (txs (rs.map rowT))) = H2 at s2 hpl hp1 s02 ⊢
  refine ⟨pl, rfl, ⟨_, SqL.of hpl⟩, ?_⟩
  refine for_enumL (K := K) (a := pl) (xs := txs (rs.map rowT)) (fun i σ H' => ∃ (ks : List Rw) (nv rv xv : Option V), σ = [some (.str (S (txP rs))), some (.ref p1), nv, rv, xv] /\ H' p1 = some (.lst (rwv ks)) /\ rwT ks = rs.take i /\ (∀ k ∈ ks, RwF H' k) /\ H' pl = some (.lst (txs (rs.map rowT))) /\ Same H H')
    ⟨[], none, none, none, rfl, hp1, rfl, fun _ h => absurd h List.not_mem_nil, hpl, s02⟩ (fun i σ H' _ ⟨_, _, _, _, _, _, _, _, h, _⟩ => SqL.of h) ?_ ?_
  · rintro i x σ H3 T0 hx ⟨ks, nv, rv, xv, rfl, hp3, hks, hkr, hpl3, s3⟩ nT
    obtain ⟨l, hl, rfl⟩ := txs_get hx
    rw [List.getElem?_map] at hl
    obtain ⟨r, hr, rfl⟩ := Option.map_eq_some_iff.mp hl
    have hrr := hall r (List.mem_of_getElem? hr)
    have hi : i < rs.length := (List.getElem?_eq_some_iff.mp hr).1
    have sT := Same.upd (o := HO.tup [V.int (i : Nat), V.str (S (rowT r))]) nT
    refine ⟨T0, _, rfl, SqT.of upd_same, rfl, _, _, rfl, _, _, rfl, rfl, ?_⟩
    refine ⟨_, rfl, r.1, r.2, rfl, hrr.1, hrr.2.1, hrr.2.2, fun R a H4 hR hta s4 => ?_⟩
    have s34 := sT.trans s4
    have hp4 := s34 _ _ hp3
    refine ⟨_, rfl, rfl, _, rfl, iteN (decide_eq_false fun z => nomatch z) ?_⟩
    have hkl : ks.length = i := by
      have := congrArg List.length hks
      unfold rwT at this
      rw [List.length_map, List.length_take] at this
      omega
    refine ⟨_, rfl, .inl ⟨rfl, _, SqL.of hp4⟩, _, rfl, p1, _, _, rfl, rfl, hp4, by rw [rwv_len]; omega, ?_⟩
    rw [rwv_snoc ks ⟨R, a, r.1, r.2⟩]
    have tU := TSame.updL (o := HO.lst (rwv (ks ++ [⟨R, a, r.1, r.2⟩]))) hp4
    refine ⟨ks ++ [⟨R, a, r.1, r.2⟩], _, _, _, rfl, upd_same, ?_, fun k hk => ?_, by rw [upd_ne hne1]; exact s34 _ _ hpl3, same_upd (s3.trans s34) n1⟩
    · rw [rwT_app, hks, <- take_snoc hr]; rfl
    · rcases List.mem_append.mp hk with g | g
      · exact (hkr k g).ts ((TSame.of s34).trans tU)
      · rw [List.mem_singleton.mp g]
        exact ⟨tU _ _ hR, hta.ts tU, hrr.2.2, hrr.1, hrr.2.1⟩
  · rintro σ H3 ⟨ks, nv, rv, xv, rfl, hp3, hks, hkr, hpl3, s3⟩
    rw [txs_len, List.length_map, List.take_length] at hks
    have hkl : ks.length = rs.length := by have := congrArg List.length hks; unfold rwT at this; rwa [List.length_map] at this
    refine ⟨_, rfl, p1, _, rfl, .inl ⟨SqL.of hp3, fun t nt => ?_⟩⟩
    have s5 := Same.upd (o := HO.tup (rwv ks)) nt
    exact q t ks _ ⟨upd_same, fun k hk => (hkr k hk).ts (TSame.of s5), fun z => hne (by rw [z] at hkl; exact List.length_eq_zero_iff.mp hkl.symm), by omega⟩ hks (s3.trans s5)
theorem ok_Lnames (T : Txt P w K mg f0 f1 f2 f3 f4 f5 f6 f7 f8 f9 f10 f11 f12 f13 f14 f15 f17 f18 f19 f20 f21 f22 f23 f24 f25 f26 k_COUNTS k_SIGNS d0 d1 d2 d3 d4 d5 d6 d7 d8 d9 d10 d11 d12 d13 d14 d15 d17 d18 d19 d20 d21 d22 d23 d24 d25 d26) : FnOk P w K mg base CX0 2 f17 d17 ["_law_box_here", "_law_many"] (sp_Lnames K) := by
  have G_Ltake := ok_Ltake (P := P) (w := w) (base := base) T
  refine T.F17.fn.ok sc_Lnames (fun vs H Q E h => len_Lnames h) (fun cdv A outer s H vs Q E hr h => ?_)
  refine ⟨_, (pss_cons (ps_set (i := 2) sc_Lnames.nd rfl (Or.inr rfl) (pe_S [97, 98, 99, 100, 101, 102, 103, 104, 105, 106, 107, 108, 109, 110, 111, 112, 113, 114, 115, 116, 117, 118, 119, 120, 121, 122] (by decide +kernel)))
      (pss_cons (ps_set (i := 3) sc_Lnames.nd rfl (Or.inl rfl) (pe_bmK K rfl PySem.F.plainAttrs_str PySem.F.slot_str_join PySem.F.type_str_join (mt_joinK K rfl) (pe_S [] (by decide +kernel)) (pa_cons (pe_compB ["_law_k", "_law_letters", "_law_box_here"] [none, some 2, some 0] (pi_range1 rfl T.z_range (pa_cons (pe_op op_add pe_int (pe_call G_Ltake (hr.mono (by decide)) rfl T.F15.mg T.F15.fn.kp T.F15.bd .nil pass0 (pa_cons (pv 0) (pa_cons pe_int pa_nil)))) pa_nil)) ⟨⟨rfl, rfl, by first | exact .inl rfl | exact .inr rfl⟩, ⟨⟨rfl, rfl, by first | exact .inl rfl | exact .inr rfl⟩, trivial⟩⟩ (fun _ _ _ _ => (pg_name (i := 0) (by decide +kernel : List.Nodup (["_law_k", "_law_letters", "_law_box_here"] : List Str)) rfl (Or.inl rfl))) (fun _ _ _ _ => pf_nil) (fun _ _ _ _ => (pe_ix ix_S (pv 1) (pe_call G_Ltake (hr.mono (by decide)) rfl T.F15.mg T.F15.fn.kp T.F15.bd .nil pass0 (pa_cons (pv 2) (pa_cons pe_int pa_nil))) (fun _ _ => rfl)))) pa_nil)))
      (pss_cons (ps_set (i := 4) sc_Lnames.nd rfl (Or.inl rfl) (pe_lst pa_nil))
      (pss_cons (ps_whileN PassesOwn.never (pt_cmpR op_lt (pe_callB (call_len_seqK K rfl) rfl T.z_len PySem.boot_len (pa_cons (pv 4) pa_nil)) (pv 1) (nomark _)) (pss_cons (ps_set (i := 5) sc_Lnames.nd rfl (Or.inl rfl) (pe_call G_Ltake (hr.mono (by decide)) rfl T.F15.mg T.F15.fn.kp T.F15.bd .nil pass0 (pa_cons (pv 0) (pa_cons pe_int pa_nil))))
      (pss_cons (ps_set (i := 6) sc_Lnames.nd rfl (Or.inl rfl) (pe_bmK K rfl PySem.F.plainAttrs_str PySem.F.slot_str_join PySem.F.type_str_join (mt_joinK K rfl) (pe_S [] (by decide +kernel)) (pa_cons (pe_compB ["_law_k", "_law_letters", "_law_box_here"] [none, some 2, some 0] (pi_range1 rfl T.z_range (pa_cons (pe_op op_add pe_int (pe_call G_Ltake (hr.mono (by decide)) rfl T.F15.mg T.F15.fn.kp T.F15.bd .nil pass0 (pa_cons (pv 0) (pa_cons pe_int pa_nil)))) pa_nil)) ⟨⟨rfl, rfl, by first | exact .inl rfl | exact .inr rfl⟩, ⟨⟨rfl, rfl, by first | exact .inl rfl | exact .inr rfl⟩, trivial⟩⟩ (fun _ _ _ _ => (pg_name (i := 0) (by decide +kernel : List.Nodup (["_law_k", "_law_letters", "_law_box_here"] : List Str)) rfl (Or.inl rfl))) (fun _ _ _ _ => pf_nil) (fun _ _ _ _ => (pe_ix ix_S (pv 1) (pe_call G_Ltake (hr.mono (by decide)) rfl T.F15.mg T.F15.fn.kp T.F15.bd .nil pass0 (pa_cons (pv 2) (pa_cons pe_int pa_nil))) (fun _ _ => rfl)))) pa_nil)))
      (pss_cons (ps_if (pt_cmpR op_eqI (pv 5) pe_int (nomark _)) (pss_cons (ps_set (i := 7) sc_Lnames.nd rfl (Or.inl rfl) (pe_call G_Ltake (hr.mono (by decide)) rfl T.F15.mg T.F15.fn.kp T.F15.bd .nil pass0 (pa_cons (pv 0) (pa_cons (pe_callB call_lenS rfl T.z_len PySem.boot_len (pa_cons (pv 3) pa_nil)) pa_nil))))
      (pss_one (ps_set (i := 6) sc_Lnames.nd rfl (Or.inl rfl) (pe_op op_addS (pe_op op_addS (pe_slice sl_S (pv 3) po_none (po_some (pv 7))) (pe_ix ix_S (pv 2) (pe_call G_Ltake (hr.mono (by decide)) rfl T.F15.mg T.F15.fn.kp T.F15.bd .nil pass0 (pa_cons (pv 0) (pa_cons pe_int pa_nil))) (fun _ _ => rfl))) (pe_slice sl_S (pv 3) (po_some (pe_op op_add (pv 7) pe_int)) po_none))))) pss_nil)
      (pss_cons (ps_if (pt_cmpR op_eqI (pv 5) pe_int (nomark _)) (pss_one (ps_set (i := 6) sc_Lnames.nd rfl (Or.inl rfl) (pe_op op_addS (pe_slice sl_S (pv 3) po_none (po_some (pe_op op_add pe_int (pe_call G_Ltake (hr.mono (by decide)) rfl T.F15.mg T.F15.fn.kp T.F15.bd .nil pass0 (pa_cons (pv 0) (pa_cons (pe_callB call_lenS rfl T.z_len PySem.boot_len (pa_cons (pv 3) pa_nil)) pa_nil)))))) (pe_slice sl_S (pv 6) po_none (po_some (pe_call G_Ltake (hr.mono (by decide)) rfl T.F15.mg T.F15.fn.kp T.F15.bd .nil pass0 (pa_cons (pv 0) (pa_cons pe_int pa_nil)))))))) pss_nil)
      (pss_cons (ps_whileN PassesOwn.never (PW.pt (pw_or (pt_cmpR (op_inK K rfl) (pv 6) (pv 4) (by with_unfolding_all rfl)) (pw_or1 (pt_cmpR (op_inK K rfl) (pv 6) (pe_tup (pa_cons (pe_S [116, 104, 101, 110] (by decide +kernel)) (pa_cons (pe_S [98, 97, 99, 107] (by decide +kernel)) (pa_cons (pe_S [97, 103, 97, 105, 110] (by decide +kernel)) (pa_cons (pe_S [102, 111, 114] (by decide +kernel)) pa_nil))))) (by with_unfolding_all rfl))))) (pss_one (ps_set (i := 6) sc_Lnames.nd rfl (Or.inl rfl) (pe_op op_addS (pe_ix ix_S (pv 2) (pe_op op_mod (pe_op op_add (pe_bmK K rfl PySem.F.plainAttrs_str PySem.F.slot_str_index PySem.F.type_str_index mt_indexS (pv 2) (pa_cons (pe_ix ix_S (pv 6) pe_int (fun _ _ => rfl)) pa_nil)) pe_int) pe_int) (fun _ _ => rfl)) (pe_slice sl_S (pv 6) (po_some pe_int) po_none)))))
      (pss_one (ps_expr (pe_bmK K rfl PySem.F.plainAttrs_list PySem.F.slot_list_append PySem.F.type_list_append mt_append (pv 4) (pa_cons (pv 6) pa_nil))))))))))
      (pss_one (ps_ret (pv 4))))))), ?_⟩
  obtain ⟨b, many, rfl, hb, hmany, q⟩ := h
  have hs : (100000 : Nat) < sizeLine := by decide
  refine ⟨rfl, _, rfl, b, 5, rfl, hb, by omega, by omega, fun n1 G1 hn1 hbG1 sG1 => ?_⟩
  refine ⟨_, _, rfl, rfl, _, rfl, by omega, by omega, ?_⟩
  have en1 : ((1 : Int) + (n1 : Int)).toNat = 1 + n1 := by omega
  rw [en1]
  refine comp_rng (n := 1 + n1) (fun i acc H' => BoxAt H' b /\ SameB b H H' /\ ∃ l : List Nat, acc = sgs l /\ l.length = i /\ ∀ c ∈ l, c ∈ smalls) (by omega) ⟨hbG1, sG1, [], rfl, rfl, by simp⟩ ?_ ?_
  · rintro i acc H2 Nx hi hl ⟨hb2, s2, l, rfl, hl2, hm⟩ nx
    refine ⟨⟨rfl, rfl, trivial⟩, yes_ite ?_⟩
    refine ⟨_, rfl, _, rfl, b, 26, rfl, hb2, by omega, by omega, fun r H3 hr3 hb3 s3 => ?_⟩
    have hr4 : r < smalls.length := by have e26 : smalls.length = 26 := rfl; omega
    refine ⟨smalls, _, smalls[r], rfl, rfl, by decide, atI_nat (List.getElem?_eq_getElem hr4), ?_⟩
    refine nx _ _ (by simpa using hl) ⟨hb3, s2.trans s3, l ++ [smalls[r]], sgs_snoc _ _, by simp [hl2], fun c hc => ?_⟩
    rcases List.mem_append.mp hc with z | z
    · exact hm c z
    · rw [List.mem_singleton.mp z]; exact List.getElem_mem hr4
  · rintro acc K1 D1 hl1 ⟨hbK1, sK1, stem, rfl, hlen1, hm1⟩ hD1
    refine ⟨D1, stem.map fun c => [c], rfl, rfl, SqL.of ?_, ?_, ?_⟩
    · rw [upd_same, <- sgs_lists]
    · rw [sum1]; omega
    rw [flat1]
    have hbL1 : BoxAt (upd K1 D1 (.lst (sgs stem))) b := hbK1.same (Same.upd hD1)
    have sL1 : SameB b H (upd K1 D1 (.lst (sgs stem))) := sK1.trans (SameB.of (Same.upd hD1))
    generalize upd K1 D1 (.lst (sgs stem)) = HL1 at hbL1 sL1 ⊢
    have hst := hm1
    have hsl : 1 <= stem.length /\ stem.length <= 5 := by omega
    refine ⟨by show 0 <= sizeLine; decide, fun p np => ?_⟩
    have pb : p ≠ b := hbL1.ne np
    have pH : H p = none := sL1.none np pb
    refine ⟨fun m σ H' => ∃ (fv nv av : Option V) (ns : List (List Nat)), σ = [some (.ref b), some (.int many), some (.str (S smalls)), some (.str (S stem)), some (.ref p), fv, nv, av] /\ BoxAt H' b /\ H' p = some (.lst (txs ns)) /\ m = many - ns.length /\ ns.length <= many /\ (∀ s ∈ ns, NmF s) /\ ns.Nodup /\ SameB b H H', ⟨many, none, none, none, [], rfl, hbL1.same (Same.upd np), upd_same, rfl, Nat.zero_le _, by simp, List.nodup_nil, sL1.trans (SameB.of (Same.upd np))⟩, ?_⟩
    rintro mm σ0 H2 ⟨fv, nv, av, ns, rfl, hb2, hp2, hmm, hnl, hns, hnd, sH2⟩
    refine ⟨_, rfl, p, _, rfl, .inl (SqL.of hp2), _, rfl, _, _, rfl, rfl, _, rfl, ite2 (fun gl => ?_) (fun gl => ?_)⟩
    · have gl' : ns.length < many := by have := of_decide_eq_true gl; rw [txs_len] at this; omega
      refine ⟨_, rfl, b, 3, rfl, hb2, by omega, by omega, fun form F hform hbF sF => ?_⟩
      have hpF := sF _ _ hp2 pb
      refine ⟨rfl, _, rfl, b, 6, rfl, hbF, by omega, by omega, fun n2 G2 hn2 hbG2 sG2 => ?_⟩
      refine ⟨_, _, rfl, rfl, _, rfl, by omega, by omega, ?_⟩
      have en2 : ((1 : Int) + (n2 : Int)).toNat = 1 + n2 := by omega
      rw [en2]
      refine comp_rng (n := 1 + n2) (fun i acc H' => BoxAt H' b /\ SameB b F H' /\ ∃ l : List Nat, acc = sgs l /\ l.length = i /\ ∀ c ∈ l, c ∈ smalls) (by omega) ⟨hbG2, sG2, [], rfl, rfl, by simp⟩ ?_ ?_
      · rintro i acc H2 Nx hi hl ⟨hb2, s2, l, rfl, hl2, hm⟩ nx
        refine ⟨⟨rfl, rfl, trivial⟩, yes_ite ?_⟩
        refine ⟨_, rfl, _, rfl, b, 26, rfl, hb2, by omega, by omega, fun r H3 hr3 hb3 s3 => ?_⟩
        have hr4 : r < smalls.length := by have e26 : smalls.length = 26 := rfl; omega
        refine ⟨smalls, _, smalls[r], rfl, rfl, by decide, atI_nat (List.getElem?_eq_getElem hr4), ?_⟩
        refine nx _ _ (by simpa using hl) ⟨hb3, s2.trans s3, l ++ [smalls[r]], sgs_snoc _ _, by simp [hl2], fun c hc => ?_⟩
        rcases List.mem_append.mp hc with z | z
        · exact hm c z
        · rw [List.mem_singleton.mp z]; exact List.getElem_mem hr4
      · rintro acc K2 D2 hl2 ⟨hbK2, sK2, nm1, rfl, hlen2, hm2⟩ hD2
        refine ⟨D2, nm1.map fun c => [c], rfl, rfl, SqL.of ?_, ?_, ?_⟩
        · rw [upd_same, <- sgs_lists]
        · rw [sum1]; omega
        rw [flat1]
        have hbL2 : BoxAt (upd K2 D2 (.lst (sgs nm1))) b := hbK2.same (Same.upd hD2)
        have sL2 : SameB b F (upd K2 D2 (.lst (sgs nm1))) := sK2.trans (SameB.of (Same.upd hD2))
        generalize upd K2 D2 (.lst (sgs nm1)) = HL2 at hbL2 sL2 ⊢
        have hpL := sL2 _ _ hpF pb
        have hnm1 : Nm6 nm1 := ⟨fun z => by rw [z] at hlen2; simp at hlen2; omega, hm2, by omega⟩
        refine ⟨_, rfl, _, _, rfl, rfl, _, rfl, ite2 (fun g0 => ?_) (fun g0 => ?_)⟩
        · have f0 : (form : Int) = 0 := of_decide_eq_true g0
          refine ⟨_, rfl, _, rfl, stem, rfl, by omega, b, (stem.length : Nat), rfl, hbL2, by omega, by omega, fun at3 H3 hat hb3 s3 => ?_⟩
          refine ⟨_, rfl, _, rfl, _, rfl, stem, rfl, by omega, ?_⟩
          rw [cut_to]
          refine ⟨_, rfl, _, rfl, b, 26, rfl, hb3, by omega, by omega, fun r4 H4 hr4 hb4 s4 => ?_⟩
          have hr5 : r4 < smalls.length := by have e26 : smalls.length = 26 := rfl; omega
          refine ⟨smalls, _, smalls[r4], rfl, rfl, by decide, atI_nat (List.getElem?_eq_getElem hr5), ?_⟩
          refine ⟨stem.take at3, [smalls[r4]], rfl, rfl, by simp; omega, ?_⟩
          refine ⟨_, rfl, _, rfl, _, _, rfl, rfl, _, rfl, stem, rfl, by omega, ?_⟩
          have e6 : (at3 : Int) + 1 = ((at3 + 1 : Nat) : Int) := by omega
          rw [e6, cut_from]
          refine ⟨stem.take at3 ++ [smalls[r4]], stem.drop (at3 + 1), rfl, rfl, by simp; omega, ?_⟩
          have hnm : Nm6 (stem.take at3 ++ [smalls[r4]] ++ stem.drop (at3 + 1)) := ⟨by simp, fun c hc => by
            rcases List.mem_append.mp hc with z | z
            · rcases List.mem_append.mp z with y | y
              · exact hst c (List.mem_of_mem_take y)
              · rw [List.mem_singleton.mp y]; exact List.getElem_mem hr5
            · exact hst c (List.mem_of_mem_drop z), by simp; omega⟩
          generalize stem.take at3 ++ [smalls[r4]] ++ stem.drop (at3 + 1) = nm at hnm ⊢
          have hpZ := s4 _ _ (s3 _ _ hpL pb) pb
          have sZ : SameB b H2 H4 := ((sF.trans sL2).trans s3).trans s4
          have hbZ := hb4
          refine ⟨_, rfl, _, _, rfl, rfl, _, rfl, iteN (by rw [f0]; decide) ?_⟩
          obtain ⟨c0, w, rfl⟩ : ∃ c w, nm = c :: w := by
            cases nm with
            | nil => exact absurd rfl hnm.ne
            | cons c w => exact ⟨c, w, rfl⟩
          have hc0 := hnm.lt c0 List.mem_cons_self
          have hw : ∀ c ∈ w, c ∈ smalls := fun c hc => hnm.lt c (List.mem_cons_of_mem _ hc)
          have hwl : w.length + 1 <= 6 := hnm.sz
          obtain ⟨m0, hm0⟩ := rtl_end (ns := ns) (by omega) w hc0
          refine ⟨fun m σ H' => ∃ c, σ = [some (.ref b), some (.int many), some (.str (S smalls)), some (.str (S stem)), some (.ref p), some (.int form), some (.str (S (c :: w))), some (.int at3)] /\ c ∈ smalls /\ rtlN m c :: w ∉ ns ++ keptW /\ BoxAt H' b /\ H' p = some (.lst (txs ns)) /\ SameB b H2 H', ⟨m0, c0, rfl, hc0, hm0, hbZ, hpZ, sZ⟩, ?_⟩
          rintro m1 σ1 H5 ⟨c, rfl, hc, hgood, hb5, hp5, s5⟩
          have go : (c :: w ∈ ns ++ keptW) -> ∃ m', m' < m1 /\ rtlN m' (rtl c) :: w ∉ ns ++ keptW := fun hbad => by
            cases m1 with
            | zero => exact absurd hbad hgood
            | succ m1 => exact ⟨m1, Nat.lt_succ_self _, hgood⟩
          have hc128 : smalls.length = 26 := rfl
          have eix : ((smalls.idxOf c : Nat) : Int) + 1 = ((smalls.idxOf c + 1 : Nat) : Int) := by omega
          have emod : (((smalls.idxOf c : Nat) : Int) + 1) % 26 = (((smalls.idxOf c + 1) % 26 : Nat) : Int) := by omega
          have at0 : atI (c :: w) 0 = some c := atI_nat (j := 0) rfl
          have cutw : cut (c :: w) (some 1) none = w := by have := cut_from (c :: w) 1; rw [show ((1 : Nat) : Int) = 1 from rfl] at this; rw [this]; rfl
          have atr : atI smalls ((((smalls.idxOf c : Nat) : Int) + 1) % 26) = some (rtl c) := by rw [emod]; exact atI_nat (rtl_small c hc).2
          refine ⟨_, rfl, _, rfl, p, _, rfl, .inl (SqL.of hp5), rfl, txs_flat _, _, rfl, ite2 (fun g => iteT ?_) (fun g => ?_)⟩
          · have g' : c :: w ∈ ns := by rw [if_neg Bool.false_ne_true, inV_tx] at g; exact of_decide_eq_true g
            refine ⟨_, rfl, _, rfl, rfl, _, rfl, c :: w, 0, c, rfl, rfl, by simp; omega, at0, smalls, c, rfl, rfl, hc, _, _, rfl, rfl, _, _, rfl, rfl, (by decide : (0 : Int) < 26), smalls, _, rtl c, rfl, rfl, by decide, atr, _, rfl, _, rfl, c :: w, rfl, by simp; omega, ?_⟩
            rw [cutw]
            obtain ⟨m', hlt, hg2⟩ := go (List.mem_append.mpr (.inl g'))
            exact ⟨[rtl c], w, rfl, rfl, by simp; omega, m', hlt, rtl c, rfl, (rtl_small c hc).1, hg2, hb5, hp5, s5⟩
          · have g' : c :: w ∉ ns := fun z => g (by rw [if_neg Bool.false_ne_true, inV_tx]; exact decide_eq_true z)
            refine ⟨_, rfl, by show 4 <= sizeLine; decide, fun p6 n6 => ?_⟩
            have s6 := Same.upd (o := HO.tup (txs keptW)) n6
            have h6 : upd H5 p6 (HO.tup (txs keptW)) p6 = some (HO.tup (txs keptW)) := upd_same
            have hb6 := hb5.same s6
            have hp6 := s6 _ _ hp5
            have s26 : SameB b H2 _ := s5.trans (SameB.of s6)
            refine ⟨p6, txs keptW, rfl, .inr (SqT.of h6), rfl, txs_flat _, _, rfl, ite2 (fun g2 => ?_) (fun g2 => ?_)⟩
            · have g2' : c :: w ∈ keptW := by rw [if_neg Bool.false_ne_true, inV_tx] at g2; exact of_decide_eq_true g2
              obtain ⟨m', hlt, hg2⟩ := go (List.mem_append.mpr (.inr g2'))
              refine ⟨_, rfl, _, rfl, rfl, _, rfl, c :: w, 0, c, rfl, rfl, by simp; omega, at0, smalls, c, rfl, rfl, hc, _, _, rfl, rfl, _, _, rfl, rfl, (by decide : (0 : Int) < 26), smalls, _, rtl c, rfl, rfl, by decide, atr, _, rfl, _, rfl, c :: w, rfl, by simp; omega, ?_⟩
              rw [cutw]
              exact ⟨[rtl c], w, rfl, rfl, by simp; omega, m', hlt, rtl c, rfl, (rtl_small c hc).1, hg2, hb6, hp6, s26⟩
            · refine ⟨_, rfl, .inl ⟨rfl, _, SqL.of hp6⟩, _, rfl, p, _, _, rfl, rfl, hp6, by rw [txs_len]; omega, ?_⟩
              refine ⟨many - (ns ++ [c :: w]).length, by rw [List.length_append, hmm]; simp; omega, _, _, _, ns ++ [c :: w], rfl, hb6.updN pb, by rw [upd_same, txs_snoc], rfl, by simp; omega, fun s hs => ?_, List.nodup_append.mpr ⟨hnd, by simp, fun x hx y hy z => by rw [List.mem_singleton.mp hy] at z; rw [z] at hx; exact g' hx⟩, (sH2.trans s26).updN pH⟩
              rcases List.mem_append.mp hs with z | z
              · exact hns s z
              · rw [List.mem_singleton.mp z]
                exact ⟨by simp, fun d hd => by
                  rcases List.mem_cons.mp hd with rfl | hd
                  · exact hc
                  · exact hw d hd, by simp; omega, fun z => g2 (by rw [if_neg Bool.false_ne_true, inV_tx]; exact decide_eq_true z)⟩
        · refine ⟨_, rfl, _, _, rfl, rfl, _, rfl, ite2 (fun g1 => ?_) (fun g1 => ?_)⟩
          · refine ⟨_, rfl, _, rfl, _, rfl, stem, rfl, by omega, b, (stem.length : Nat), rfl, hbL2, by omega, by omega, fun at3 H3 hat hb3 s3 => ?_⟩
            refine ⟨_, _, rfl, rfl, _, rfl, stem, rfl, by omega, ?_⟩
            have e6 : (1 : Int) + (at3 : Int) = ((1 + at3 : Nat) : Int) := by omega
            rw [e6, cut_to]
            refine ⟨_, rfl, _, rfl, b, 2, rfl, hb3, by omega, by omega, fun r4 H4 hr4 hb4 s4 => ?_⟩
            refine ⟨_, rfl, nm1, rfl, by omega, ?_⟩
            rw [cut_to]
            refine ⟨stem.take (1 + at3), nm1.take r4, rfl, rfl, by simp; omega, ?_⟩
            have hnm : Nm6 (stem.take (1 + at3) ++ nm1.take r4) := ⟨fun z => by have := congrArg List.length z; rw [List.length_append, List.length_take, List.length_nil] at this; omega, fun c hc => by
              rcases List.mem_append.mp hc with y | y
              · exact hst c (List.mem_of_mem_take y)
              · exact hm2 c (List.mem_of_mem_take y), by rw [List.length_append, List.length_take, List.length_take]; omega⟩
            generalize stem.take (1 + at3) ++ nm1.take r4 = nm at hnm ⊢
            have hpZ := s4 _ _ (s3 _ _ hpL pb) pb
            have sZ : SameB b H2 H4 := ((sF.trans sL2).trans s3).trans s4
            have hbZ := hb4
            obtain ⟨c0, w, rfl⟩ : ∃ c w, nm = c :: w := by
              cases nm with
              | nil => exact absurd rfl hnm.ne
              | cons c w => exact ⟨c, w, rfl⟩
            have hc0 := hnm.lt c0 List.mem_cons_self
            have hw : ∀ c ∈ w, c ∈ smalls := fun c hc => hnm.lt c (List.mem_cons_of_mem _ hc)
            have hwl : w.length + 1 <= 6 := hnm.sz
            obtain ⟨m0, hm0⟩ := rtl_end (ns := ns) (by omega) w hc0
            refine ⟨fun m σ H' => ∃ c, σ = [some (.ref b), some (.int many), some (.str (S smalls)), some (.str (S stem)), some (.ref p), some (.int form), some (.str (S (c :: w))), av] /\ c ∈ smalls /\ rtlN m c :: w ∉ ns ++ keptW /\ BoxAt H' b /\ H' p = some (.lst (txs ns)) /\ SameB b H2 H', ⟨m0, c0, rfl, hc0, hm0, hbZ, hpZ, sZ⟩, ?_⟩
            rintro m1 σ1 H5 ⟨c, rfl, hc, hgood, hb5, hp5, s5⟩
            have go : (c :: w ∈ ns ++ keptW) -> ∃ m', m' < m1 /\ rtlN m' (rtl c) :: w ∉ ns ++ keptW := fun hbad => by
              cases m1 with
              | zero => exact absurd hbad hgood
              | succ m1 => exact ⟨m1, Nat.lt_succ_self _, hgood⟩
            have hc128 : smalls.length = 26 := rfl
            have eix : ((smalls.idxOf c : Nat) : Int) + 1 = ((smalls.idxOf c + 1 : Nat) : Int) := by omega
            have emod : (((smalls.idxOf c : Nat) : Int) + 1) % 26 = (((smalls.idxOf c + 1) % 26 : Nat) : Int) := by omega
            have at0 : atI (c :: w) 0 = some c := atI_nat (j := 0) rfl
            have cutw : cut (c :: w) (some 1) none = w := by have := cut_from (c :: w) 1; rw [show ((1 : Nat) : Int) = 1 from rfl] at this; rw [this]; rfl
            have atr : atI smalls ((((smalls.idxOf c : Nat) : Int) + 1) % 26) = some (rtl c) := by rw [emod]; exact atI_nat (rtl_small c hc).2
            refine ⟨_, rfl, _, rfl, p, _, rfl, .inl (SqL.of hp5), rfl, txs_flat _, _, rfl, ite2 (fun g => iteT ?_) (fun g => ?_)⟩
            · have g' : c :: w ∈ ns := by rw [if_neg Bool.false_ne_true, inV_tx] at g; exact of_decide_eq_true g
              refine ⟨_, rfl, _, rfl, rfl, _, rfl, c :: w, 0, c, rfl, rfl, by simp; omega, at0, smalls, c, rfl, rfl, hc, _, _, rfl, rfl, _, _, rfl, rfl, (by decide : (0 : Int) < 26), smalls, _, rtl c, rfl, rfl, by decide, atr, _, rfl, _, rfl, c :: w, rfl, by simp; omega, ?_⟩
              rw [cutw]
              obtain ⟨m', hlt, hg2⟩ := go (List.mem_append.mpr (.inl g'))
              exact ⟨[rtl c], w, rfl, rfl, by simp; omega, m', hlt, rtl c, rfl, (rtl_small c hc).1, hg2, hb5, hp5, s5⟩
            · have g' : c :: w ∉ ns := fun z => g (by rw [if_neg Bool.false_ne_true, inV_tx]; exact decide_eq_true z)
              refine ⟨_, rfl, by show 4 <= sizeLine; decide, fun p6 n6 => ?_⟩
              have s6 := Same.upd (o := HO.tup (txs keptW)) n6
              have h6 : upd H5 p6 (HO.tup (txs keptW)) p6 = some (HO.tup (txs keptW)) := upd_same
              have hb6 := hb5.same s6
              have hp6 := s6 _ _ hp5
              have s26 : SameB b H2 _ := s5.trans (SameB.of s6)
              refine ⟨p6, txs keptW, rfl, .inr (SqT.of h6), rfl, txs_flat _, _, rfl, ite2 (fun g2 => ?_) (fun g2 => ?_)⟩
              · have g2' : c :: w ∈ keptW := by rw [if_neg Bool.false_ne_true, inV_tx] at g2; exact of_decide_eq_true g2
                obtain ⟨m', hlt, hg2⟩ := go (List.mem_append.mpr (.inr g2'))
                refine ⟨_, rfl, _, rfl, rfl, _, rfl, c :: w, 0, c, rfl, rfl, by simp; omega, at0, smalls, c, rfl, rfl, hc, _, _, rfl, rfl, _, _, rfl, rfl, (by decide : (0 : Int) < 26), smalls, _, rtl c, rfl, rfl, by decide, atr, _, rfl, _, rfl, c :: w, rfl, by simp; omega, ?_⟩
                rw [cutw]
                exact ⟨[rtl c], w, rfl, rfl, by simp; omega, m', hlt, rtl c, rfl, (rtl_small c hc).1, hg2, hb6, hp6, s26⟩
              · refine ⟨_, rfl, .inl ⟨rfl, _, SqL.of hp6⟩, _, rfl, p, _, _, rfl, rfl, hp6, by rw [txs_len]; omega, ?_⟩
                refine ⟨many - (ns ++ [c :: w]).length, by rw [List.length_append, hmm]; simp; omega, _, _, _, ns ++ [c :: w], rfl, hb6.updN pb, by rw [upd_same, txs_snoc], rfl, by simp; omega, fun s hs => ?_, List.nodup_append.mpr ⟨hnd, by simp, fun x hx y hy z => by rw [List.mem_singleton.mp hy] at z; rw [z] at hx; exact g' hx⟩, (sH2.trans s26).updN pH⟩
                rcases List.mem_append.mp hs with z | z
                · exact hns s z
                · rw [List.mem_singleton.mp z]
                  exact ⟨by simp, fun d hd => by
                    rcases List.mem_cons.mp hd with rfl | hd
                    · exact hc
                    · exact hw d hd, by simp; omega, fun z => g2 (by rw [if_neg Bool.false_ne_true, inV_tx]; exact decide_eq_true z)⟩
          · have hpZ := hpL
            have sZ : SameB b H2 HL2 := sF.trans sL2
            have hbZ := hbL2
            have hnm := hnm1
            clear hnm1 hm2 hlen2 hl2
            generalize nm1 = nm at hnm ⊢
            obtain ⟨c0, w, rfl⟩ : ∃ c w, nm = c :: w := by
              cases nm with
              | nil => exact absurd rfl hnm.ne
              | cons c w => exact ⟨c, w, rfl⟩
            have hc0 := hnm.lt c0 List.mem_cons_self
            have hw : ∀ c ∈ w, c ∈ smalls := fun c hc => hnm.lt c (List.mem_cons_of_mem _ hc)
            have hwl : w.length + 1 <= 6 := hnm.sz
            obtain ⟨m0, hm0⟩ := rtl_end (ns := ns) (by omega) w hc0
            refine ⟨fun m σ H' => ∃ c, σ = [some (.ref b), some (.int many), some (.str (S smalls)), some (.str (S stem)), some (.ref p), some (.int form), some (.str (S (c :: w))), av] /\ c ∈ smalls /\ rtlN m c :: w ∉ ns ++ keptW /\ BoxAt H' b /\ H' p = some (.lst (txs ns)) /\ SameB b H2 H', ⟨m0, c0, rfl, hc0, hm0, hbZ, hpZ, sZ⟩, ?_⟩
            rintro m1 σ1 H5 ⟨c, rfl, hc, hgood, hb5, hp5, s5⟩
            have go : (c :: w ∈ ns ++ keptW) -> ∃ m', m' < m1 /\ rtlN m' (rtl c) :: w ∉ ns ++ keptW := fun hbad => by
              cases m1 with
              | zero => exact absurd hbad hgood
              | succ m1 => exact ⟨m1, Nat.lt_succ_self _, hgood⟩
            have hc128 : smalls.length = 26 := rfl
            have eix : ((smalls.idxOf c : Nat) : Int) + 1 = ((smalls.idxOf c + 1 : Nat) : Int) := by omega
            have emod : (((smalls.idxOf c : Nat) : Int) + 1) % 26 = (((smalls.idxOf c + 1) % 26 : Nat) : Int) := by omega
            have at0 : atI (c :: w) 0 = some c := atI_nat (j := 0) rfl
            have cutw : cut (c :: w) (some 1) none = w := by have := cut_from (c :: w) 1; rw [show ((1 : Nat) : Int) = 1 from rfl] at this; rw [this]; rfl
            have atr : atI smalls ((((smalls.idxOf c : Nat) : Int) + 1) % 26) = some (rtl c) := by rw [emod]; exact atI_nat (rtl_small c hc).2
            refine ⟨_, rfl, _, rfl, p, _, rfl, .inl (SqL.of hp5), rfl, txs_flat _, _, rfl, ite2 (fun g => iteT ?_) (fun g => ?_)⟩
            · have g' : c :: w ∈ ns := by rw [if_neg Bool.false_ne_true, inV_tx] at g; exact of_decide_eq_true g
              refine ⟨_, rfl, _, rfl, rfl, _, rfl, c :: w, 0, c, rfl, rfl, by simp; omega, at0, smalls, c, rfl, rfl, hc, _, _, rfl, rfl, _, _, rfl, rfl, (by decide : (0 : Int) < 26), smalls, _, rtl c, rfl, rfl, by decide, atr, _, rfl, _, rfl, c :: w, rfl, by simp; omega, ?_⟩
              rw [cutw]
              obtain ⟨m', hlt, hg2⟩ := go (List.mem_append.mpr (.inl g'))
              exact ⟨[rtl c], w, rfl, rfl, by simp; omega, m', hlt, rtl c, rfl, (rtl_small c hc).1, hg2, hb5, hp5, s5⟩
            · have g' : c :: w ∉ ns := fun z => g (by rw [if_neg Bool.false_ne_true, inV_tx]; exact decide_eq_true z)
              refine ⟨_, rfl, by show 4 <= sizeLine; decide, fun p6 n6 => ?_⟩
              have s6 := Same.upd (o := HO.tup (txs keptW)) n6
              have h6 : upd H5 p6 (HO.tup (txs keptW)) p6 = some (HO.tup (txs keptW)) := upd_same
              have hb6 := hb5.same s6
              have hp6 := s6 _ _ hp5
              have s26 : SameB b H2 _ := s5.trans (SameB.of s6)
              refine ⟨p6, txs keptW, rfl, .inr (SqT.of h6), rfl, txs_flat _, _, rfl, ite2 (fun g2 => ?_) (fun g2 => ?_)⟩
              · have g2' : c :: w ∈ keptW := by rw [if_neg Bool.false_ne_true, inV_tx] at g2; exact of_decide_eq_true g2
                obtain ⟨m', hlt, hg2⟩ := go (List.mem_append.mpr (.inr g2'))
                refine ⟨_, rfl, _, rfl, rfl, _, rfl, c :: w, 0, c, rfl, rfl, by simp; omega, at0, smalls, c, rfl, rfl, hc, _, _, rfl, rfl, _, _, rfl, rfl, (by decide : (0 : Int) < 26), smalls, _, rtl c, rfl, rfl, by decide, atr, _, rfl, _, rfl, c :: w, rfl, by simp; omega, ?_⟩
                rw [cutw]
                exact ⟨[rtl c], w, rfl, rfl, by simp; omega, m', hlt, rtl c, rfl, (rtl_small c hc).1, hg2, hb6, hp6, s26⟩
              · refine ⟨_, rfl, .inl ⟨rfl, _, SqL.of hp6⟩, _, rfl, p, _, _, rfl, rfl, hp6, by rw [txs_len]; omega, ?_⟩
                refine ⟨many - (ns ++ [c :: w]).length, by rw [List.length_append, hmm]; simp; omega, _, _, _, ns ++ [c :: w], rfl, hb6.updN pb, by rw [upd_same, txs_snoc], rfl, by simp; omega, fun s hs => ?_, List.nodup_append.mpr ⟨hnd, by simp, fun x hx y hy z => by rw [List.mem_singleton.mp hy] at z; rw [z] at hx; exact g' hx⟩, (sH2.trans s26).updN pH⟩
                rcases List.mem_append.mp hs with z | z
                · exact hns s z
                · rw [List.mem_singleton.mp z]
                  exact ⟨by simp, fun d hd => by
                    rcases List.mem_cons.mp hd with rfl | hd
                    · exact hc
                    · exact hw d hd, by simp; omega, fun z => g2 (by rw [if_neg Bool.false_ne_true, inV_tx]; exact decide_eq_true z)⟩
    · have gl' : ¬ ns.length < many := fun z => gl (decide_eq_true (by rw [txs_len]; omega))
      exact ⟨_, rfl, q p ns _ pH pb hp2 (by omega) hns hb2 sH2⟩
theorem ok_Lpool (T : Txt P w K mg f0 f1 f2 f3 f4 f5 f6 f7 f8 f9 f10 f11 f12 f13 f14 f15 f17 f18 f19 f20 f21 f22 f23 f24 f25 f26 k_COUNTS k_SIGNS d0 d1 d2 d3 d4 d5 d6 d7 d8 d9 d10 d11 d12 d13 d14 d15 d17 d18 d19 d20 d21 d22 d23 d24 d25 d26) : FnOk P w K mg base CX0 2 f18 d18 ["_law_box_here"] (sp_Lpool K) := by
  have G_Ltake := ok_Ltake (P := P) (w := w) (base := base) T
  refine T.F18.fn.ok sc_Lpool (fun vs H Q E h => len_Lpool h) (fun cdv A outer s H vs Q E hr h => ?_)
  refine ⟨_, (pss_cons (ps_set (i := 1) sc_Lpool.nd rfl (Or.inr rfl) (pe_S [97, 98, 99, 100, 101, 102, 103, 104, 105, 106, 107, 108, 109, 110, 111, 112, 113, 114, 115, 116, 117, 118, 119, 120, 121, 122] (by decide +kernel)))
      (pss_cons (ps_set (i := 2) sc_Lpool.nd rfl (Or.inl rfl) (pe_bmK K rfl PySem.F.plainAttrs_str PySem.F.slot_str_join PySem.F.type_str_join (mt_joinK K rfl) (pe_S [] (by decide +kernel)) (pa_cons (pe_compB ["_law_k", "_law_letters", "_law_box_here"] [none, some 1, some 0] (pi_range1 rfl T.z_range (pa_cons (pe_op op_add pe_int (pe_call G_Ltake (hr.mono (by decide)) rfl T.F15.mg T.F15.fn.kp T.F15.bd .nil pass0 (pa_cons (pv 0) (pa_cons pe_int pa_nil)))) pa_nil)) ⟨⟨rfl, rfl, by first | exact .inl rfl | exact .inr rfl⟩, ⟨⟨rfl, rfl, by first | exact .inl rfl | exact .inr rfl⟩, trivial⟩⟩ (fun _ _ _ _ => (pg_name (i := 0) (by decide +kernel : List.Nodup (["_law_k", "_law_letters", "_law_box_here"] : List Str)) rfl (Or.inl rfl))) (fun _ _ _ _ => pf_nil) (fun _ _ _ _ => (pe_ix ix_S (pv 1) (pe_call G_Ltake (hr.mono (by decide)) rfl T.F15.mg T.F15.fn.kp T.F15.bd .nil pass0 (pa_cons (pv 2) (pa_cons pe_int pa_nil))) (fun _ _ => rfl)))) pa_nil)))
      (pss_one (ps_ret (pe_op op_addS (pv 2) (pe_bm0K K rfl PySem.F.plainAttrs_str PySem.F.slot_str_upper PySem.F.type_str_upper mt_upperL (pv 2))))))), ?_⟩
  obtain ⟨b, rfl, hb, q⟩ := h
  have hs : (100000 : Nat) < sizeLine := by decide
  (repeat (first | refine ⟨_, rfl, ?_⟩ | refine ⟨_, _, rfl, rfl, ?_⟩ | refine ⟨rfl, ?_⟩ | refine And.intro (by first | decide | omega | assumption | exact Nat.le_of_ble_eq_true rfl | exact .inl ⟨by decide, by decide⟩ | exact .inr ⟨by decide, by decide⟩ | exact ⟨by decide, by decide⟩ | exact ⟨by omega, by omega⟩) ?_))
  refine ⟨b, 3, rfl, hb, by omega, by omega, fun n H1 hn hb1 s1 => ?_⟩
  (repeat (first | refine ⟨_, rfl, ?_⟩ | refine ⟨_, _, rfl, rfl, ?_⟩ | refine ⟨rfl, ?_⟩ | refine And.intro (by first | decide | omega | assumption | exact Nat.le_of_ble_eq_true rfl | exact .inl ⟨by decide, by decide⟩ | exact .inr ⟨by decide, by decide⟩ | exact ⟨by decide, by decide⟩ | exact ⟨by omega, by omega⟩) ?_))
  refine comp_rng (n := 1 + n) (fun i acc H' => BoxAt H' b /\ SameB b H H' /\ ∃ l : List Nat, acc = sgs l /\ l.length = i /\ ∀ c ∈ l, c ∈ smalls) (by omega) ⟨hb1, s1, [], rfl, rfl, by simp⟩ ?_ ?_
  · rintro i acc H2 Nx hi hl ⟨hb2, s2, l, rfl, hl2, hm⟩ nx
    refine ⟨⟨rfl, rfl, trivial⟩, yes_ite ?_⟩
    (repeat (first | refine ⟨_, rfl, ?_⟩ | refine ⟨_, _, rfl, rfl, ?_⟩ | refine ⟨rfl, ?_⟩ | refine And.intro (by first | decide | omega | assumption | exact Nat.le_of_ble_eq_true rfl | exact .inl ⟨by decide, by decide⟩ | exact .inr ⟨by decide, by decide⟩ | exact ⟨by decide, by decide⟩ | exact ⟨by omega, by omega⟩) ?_))
    refine ⟨b, 26, rfl, hb2, by omega, by omega, fun r H3 hr3 hb3 s3 => ?_⟩
    have hr4 : r < smalls.length := by have : smalls.length = 26 := rfl
                                       omega
    refine ⟨smalls, _, smalls[r], rfl, rfl, by decide, atI_nat (List.getElem?_eq_getElem hr4), ?_⟩
    refine nx _ _ (by simpa using hl) ⟨hb3, s2.trans s3, l ++ [smalls[r]], sgs_snoc _ _, by simp [hl2], fun c hc => ?_⟩
    rcases List.mem_append.mp hc with z | z
    · exact hm c z
    · rw [List.mem_singleton.mp z]; exact List.getElem_mem hr4
  · rintro acc H2 D hl ⟨hb2, s2, l, rfl, hl2, hm⟩ hD
    have hl3 : l.length <= 3 := by omega
    refine ⟨D, l.map fun c => [c], rfl, rfl, SqL.of ?_, ?_, ?_⟩
    · rw [upd_same, <- sgs_lists]
    · rw [sum1]; omega
    · rw [flat1]
      have hlt : ∀ c ∈ l, Lt c := fun c hc => .inl (hm c hc)
      (repeat (first | refine ⟨_, rfl, ?_⟩ | refine ⟨_, _, rfl, rfl, ?_⟩ | refine ⟨rfl, ?_⟩ | refine And.intro (by first | decide | omega | assumption | exact Nat.le_of_ble_eq_true rfl | exact .inl ⟨by decide, by decide⟩ | exact .inr ⟨by decide, by decide⟩ | exact ⟨by decide, by decide⟩ | exact ⟨by omega, by omega⟩) ?_))
      refine ⟨fun c hc => (hlt c hc).lt, by omega, ?_⟩
      refine ⟨l, l.map up1, rfl, rfl, by simp; omega, ?_⟩
      refine q (l ++ l.map up1) _ (by intro z; have := congrArg List.length z; rw [List.length_append, List.length_map, List.length_nil] at this; omega) (by simp; omega) (fun c hc => ?_) (fun c hc => ?_) (hb2.same (Same.upd hD)) (s2.trans (SameB.of (Same.upd hD)))
      · rcases List.mem_append.mp hc with z | z
        · exact hlt c z
        · obtain ⟨d, hd, rfl⟩ := List.mem_map.mp z
          exact up1_lt d (hm d hd)
      · have h0 : 0 < l.length := by omega
        rw [List.getElem?_append_left h0, List.getElem?_eq_getElem h0] at hc
        rw [<- Option.some.inj hc]
        exact hm _ (List.getElem_mem h0)
theorem ok_Lwalk (T : Txt P w K mg f0 f1 f2 f3 f4 f5 f6 f7 f8 f9 f10 f11 f12 f13 f14 f15 f17 f18 f19 f20 f21 f22 f23 f24 f25 f26 k_COUNTS k_SIGNS d0 d1 d2 d3 d4 d5 d6 d7 d8 d9 d10 d11 d12 d13 d14 d15 d17 d18 d19 d20 d21 d22 d23 d24 d25 d26) : FnOk P w K mg base CX0 2 f19 d19 ["_law_box_here", "_law_pool_here"] (sp_Lwalk K) := by
  have G_Ltake := ok_Ltake (P := P) (w := w) (base := base) T
  refine T.F19.fn.ok sc_Lwalk (fun vs H Q E h => len_Lwalk h) (fun cdv A outer s H vs Q E hr h => ?_)
  refine ⟨_, (pss_cons (ps_set (i := 2) sc_Lwalk.nd rfl (Or.inr rfl) (pv 1))
      (pss_cons (ps_if (pt_cmpR op_eqI (pe_call G_Ltake (hr.mono (by decide)) rfl T.F15.mg T.F15.fn.kp T.F15.bd .nil pass0 (pa_cons (pv 0) (pa_cons pe_int pa_nil))) pe_int (nomark _)) (pss_one (ps_set (i := 2) sc_Lwalk.nd rfl (Or.inr rfl) (pe_S [97, 98, 99, 100, 101, 102, 103, 104, 105, 106, 107, 108, 109, 110, 111, 112, 113, 114, 115, 116, 117, 118, 119, 120, 121, 122, 65, 66, 67, 68, 69, 70, 71, 72, 73, 74, 75, 76, 77, 78, 79, 80, 81, 82, 83, 84, 85, 86, 87, 88, 89, 90] (by decide +kernel)))) pss_nil)
      (pss_one (ps_ret (pe_bmK K rfl PySem.F.plainAttrs_str PySem.F.slot_str_join PySem.F.type_str_join (mt_joinK K rfl) (pe_S [] (by decide +kernel)) (pa_cons (pe_compB ["_law_k", "_law_some", "_law_box_here"] [none, some 2, some 0] (pi_range1 rfl T.z_range (pa_cons (pe_call G_Ltake (hr.mono (by decide)) rfl T.F15.mg T.F15.fn.kp T.F15.bd .nil pass0 (pa_cons (pv 0) (pa_cons pe_int pa_nil))) pa_nil)) ⟨⟨rfl, rfl, by first | exact .inl rfl | exact .inr rfl⟩, ⟨⟨rfl, rfl, by first | exact .inl rfl | exact .inr rfl⟩, trivial⟩⟩ (fun _ _ _ _ => (pg_name (i := 0) (by decide +kernel : List.Nodup (["_law_k", "_law_some", "_law_box_here"] : List Str)) rfl (Or.inl rfl))) (fun _ _ _ _ => pf_nil) (fun _ _ _ _ => (pe_ix ix_S (pv 1) (pe_call G_Ltake (hr.mono (by decide)) rfl T.F15.mg T.F15.fn.kp T.F15.bd .nil pass0 (pa_cons (pv 2) (pa_cons (pe_callB call_lenS rfl T.z_len PySem.boot_len (pa_cons (pv 1) pa_nil)) pa_nil))) (fun _ _ => rfl)))) pa_nil)))))), ?_⟩
  obtain ⟨b, y, rfl, hb, hy, hyl, hyt, q⟩ := h
  have hs : (100000 : Nat) < sizeLine := by decide
  (repeat (first | refine ⟨_, rfl, ?_⟩ | refine ⟨_, _, rfl, rfl, ?_⟩ | refine ⟨rfl, ?_⟩ | refine And.intro (by first | decide | omega | assumption | exact Nat.le_of_ble_eq_true rfl | exact .inl ⟨by decide, by decide⟩ | exact .inr ⟨by decide, by decide⟩ | exact ⟨by decide, by decide⟩ | exact ⟨by omega, by omega⟩) ?_))
  refine ⟨b, 6, rfl, hb, by omega, by omega, fun n0 H0 hn0 hb0 s0 => ?_⟩
  refine ⟨_, _, rfl, rfl, _, rfl, ite2 (fun _ => ?_) (fun _ => ?_)⟩
  · (repeat (first | refine ⟨_, rfl, ?_⟩ | refine ⟨_, _, rfl, rfl, ?_⟩ | refine ⟨rfl, ?_⟩ | refine And.intro (by first | decide | omega | assumption | exact Nat.le_of_ble_eq_true rfl | exact .inl ⟨by decide, by decide⟩ | exact .inr ⟨by decide, by decide⟩ | exact ⟨by decide, by decide⟩ | exact ⟨by omega, by omega⟩) ?_))
    refine ⟨b, 13, rfl, hb0, by omega, by omega, fun n H1 hn hb1 s1 => ?_⟩
    (repeat (first | refine ⟨_, rfl, ?_⟩ | refine ⟨_, _, rfl, rfl, ?_⟩ | refine ⟨rfl, ?_⟩ | refine And.intro (by first | decide | omega | assumption | exact Nat.le_of_ble_eq_true rfl | exact .inl ⟨by decide, by decide⟩ | exact .inr ⟨by decide, by decide⟩ | exact ⟨by decide, by decide⟩ | exact ⟨by omega, by omega⟩) ?_))
    refine comp_rng (n := n) (fun i acc H' => BoxAt H' b /\ SameB b H H' /\ ∃ l : List Nat, acc = sgs l /\ l.length = i /\ ∀ c ∈ l, c ∈ wideL) (by omega) ⟨hb1, s0.trans s1, [], rfl, rfl, by simp⟩ ?_ ?_
    · rintro i acc H2 Nx hi hl ⟨hb2, s2, l, rfl, hl2, hm⟩ nx
      have hpos : 0 < (wideL).length := by decide
      have hy6 : (wideL).length <= 60 := by decide
      refine ⟨⟨rfl, rfl, trivial⟩, yes_ite ?_⟩
      (repeat (first | refine ⟨_, rfl, ?_⟩ | refine ⟨_, _, rfl, rfl, ?_⟩ | refine ⟨rfl, ?_⟩ | refine And.intro (by first | decide | omega | assumption | exact Nat.le_of_ble_eq_true rfl | exact .inl ⟨by decide, by decide⟩ | exact .inr ⟨by decide, by decide⟩ | exact ⟨by decide, by decide⟩ | exact ⟨by omega, by omega⟩) ?_))
      refine ⟨b, ((wideL).length : Nat), rfl, hb2, by omega, by omega, fun r H3 hr3 hb3 s3 => ?_⟩
      have hr4 : r < (wideL).length := by omega
      refine ⟨wideL, _, (wideL)[r], rfl, rfl, by omega, atI_nat (List.getElem?_eq_getElem hr4), ?_⟩
      refine nx _ _ (by simpa using hl) ⟨hb3, s2.trans s3, l ++ [(wideL)[r]], sgs_snoc _ _, by simp [hl2], fun c hc => ?_⟩
      rcases List.mem_append.mp hc with z | z
      · exact hm c z
      · rw [List.mem_singleton.mp z]; exact List.getElem_mem hr4
    · rintro acc H2 D hl ⟨hb2, s2, l, rfl, hl2, hm⟩ hD
      have hl3 : l.length <= 12 := by omega
      refine ⟨D, l.map fun c => [c], rfl, rfl, SqL.of ?_, ?_, ?_⟩
      · rw [upd_same, <- sgs_lists]
      · rw [sum1]; omega
      · rw [flat1]
        exact q l _ hl3 (fun c hc => wide_lt c (hm c hc)) (hb2.same (Same.upd hD)) (s2.trans (SameB.of (Same.upd hD)))
  · (repeat (first | refine ⟨_, rfl, ?_⟩ | refine ⟨_, _, rfl, rfl, ?_⟩ | refine ⟨rfl, ?_⟩ | refine And.intro (by first | decide | omega | assumption | exact Nat.le_of_ble_eq_true rfl | exact .inl ⟨by decide, by decide⟩ | exact .inr ⟨by decide, by decide⟩ | exact ⟨by decide, by decide⟩ | exact ⟨by omega, by omega⟩) ?_))
    refine ⟨b, 13, rfl, hb0, by omega, by omega, fun n H1 hn hb1 s1 => ?_⟩
    (repeat (first | refine ⟨_, rfl, ?_⟩ | refine ⟨_, _, rfl, rfl, ?_⟩ | refine ⟨rfl, ?_⟩ | refine And.intro (by first | decide | omega | assumption | exact Nat.le_of_ble_eq_true rfl | exact .inl ⟨by decide, by decide⟩ | exact .inr ⟨by decide, by decide⟩ | exact ⟨by decide, by decide⟩ | exact ⟨by omega, by omega⟩) ?_))
    refine comp_rng (n := n) (fun i acc H' => BoxAt H' b /\ SameB b H H' /\ ∃ l : List Nat, acc = sgs l /\ l.length = i /\ ∀ c ∈ l, c ∈ y) (by omega) ⟨hb1, s0.trans s1, [], rfl, rfl, by simp⟩ ?_ ?_
    · rintro i acc H2 Nx hi hl ⟨hb2, s2, l, rfl, hl2, hm⟩ nx
      have hpos : 0 < (y).length := List.length_pos_iff.mpr hy
      have hy6 : (y).length <= 60 := by omega
      refine ⟨⟨rfl, rfl, trivial⟩, yes_ite ?_⟩
      (repeat (first | refine ⟨_, rfl, ?_⟩ | refine ⟨_, _, rfl, rfl, ?_⟩ | refine ⟨rfl, ?_⟩ | refine And.intro (by first | decide | omega | assumption | exact Nat.le_of_ble_eq_true rfl | exact .inl ⟨by decide, by decide⟩ | exact .inr ⟨by decide, by decide⟩ | exact ⟨by decide, by decide⟩ | exact ⟨by omega, by omega⟩) ?_))
      refine ⟨b, ((y).length : Nat), rfl, hb2, by omega, by omega, fun r H3 hr3 hb3 s3 => ?_⟩
      have hr4 : r < (y).length := by omega
      refine ⟨y, _, (y)[r], rfl, rfl, by omega, atI_nat (List.getElem?_eq_getElem hr4), ?_⟩
      refine nx _ _ (by simpa using hl) ⟨hb3, s2.trans s3, l ++ [(y)[r]], sgs_snoc _ _, by simp [hl2], fun c hc => ?_⟩
      rcases List.mem_append.mp hc with z | z
      · exact hm c z
      · rw [List.mem_singleton.mp z]; exact List.getElem_mem hr4
    · rintro acc H2 D hl ⟨hb2, s2, l, rfl, hl2, hm⟩ hD
      have hl3 : l.length <= 12 := by omega
      refine ⟨D, l.map fun c => [c], rfl, rfl, SqL.of ?_, ?_, ?_⟩
      · rw [upd_same, <- sgs_lists]
      · rw [sum1]; omega
      · rw [flat1]
        exact q l _ hl3 (fun c hc => hyt c (hm c hc)) (hb2.same (Same.upd hD)) (s2.trans (SameB.of (Same.upd hD)))
theorem step_Lterm (T : Txt P w K mg f0 f1 f2 f3 f4 f5 f6 f7 f8 f9 f10 f11 f12 f13 f14 f15 f17 f18 f19 f20 f21 f22 f23 f24 f25 f26 k_COUNTS k_SIGNS d0 d1 d2 d3 d4 d5 d6 d7 d8 d9 d10 d11 d12 d13 d14 d15 d17 d18 d19 d20 d21 d22 d23 d24 d25 d26) (n : Nat) (ih : FnOk P w K mg base CX0 (3 + n) f20 d20 ["_law_box_here", "_law_known", "_law_pool_here", "_law_room", "_law_deep"] (sp_Lterm K n)) : FnOk P w K mg base CX0 (3 + n + 1) f20 d20 ["_law_box_here", "_law_known", "_law_pool_here", "_law_room", "_law_deep"] (sp_Lterm K (n + 1)) := by
  have G_Ltake := ok_Ltake (P := P) (w := w) (base := base) T
  have G_Lwalk := ok_Lwalk (P := P) (w := w) (base := base) T
  refine T.F20.fn.ok sc_Lterm (fun vs H Q E h => len_Lterm h) (fun cdv A outer s H vs Q E hr h => ?_)
  refine ⟨_, (pss_cons (ps_set (i := 5) sc_Lterm.nd rfl (Or.inl rfl) (pe_call G_Ltake (hr.mono (by omega)) rfl T.F15.mg T.F15.fn.kp T.F15.bd .nil pass0 (pa_cons (pv 0) (pa_cons pe_int pa_nil))))
      (pss_cons (ps_if (PW.pt (pw_or (pt_cmpR op_lt (pv 3) pe_int (nomark _)) (pw_or (pt_cmpR op_lt (pv 4) pe_int (nomark _)) (pw_or1 (pt_cmpR op_lt (pv 5) pe_int (nomark _)))))) (pss_cons (ps_if (PW.pt (pw_and (pt_cmpR (op_neD K rfl hr) (pv 1) (pe_lst pa_nil) (nomark _)) (pw_and1 (pt_cmpR op_eqI (pe_call G_Ltake (hr.mono (by omega)) rfl T.F15.mg T.F15.fn.kp T.F15.bd .nil pass0 (pa_cons (pv 0) (pa_cons pe_int pa_nil))) pe_int (nomark _))))) (pss_one (ps_ret (pe_tup (pa_cons (pe_S [110, 97, 109, 101] (by decide +kernel)) (pa_cons (pe_ix (ix_listK K rfl) (pv 1) (pe_call G_Ltake (hr.mono (by omega)) rfl T.F15.mg T.F15.fn.kp T.F15.bd .nil pass0 (pa_cons (pv 0) (pa_cons (pe_callB (call_len_seqK K rfl) rfl T.z_len PySem.boot_len (pa_cons (pv 1) pa_nil)) pa_nil))) (fun _ _ => rfl)) pa_nil))))) pss_nil)
      (pss_one (ps_ret (pe_tup (pa_cons (pe_S [119, 97, 108, 107] (by decide +kernel)) (pa_cons (pe_call G_Lwalk (hr.mono (by omega)) rfl T.F19.mg T.F19.fn.kp T.F19.bd .nil pass0 (pa_cons (pv 0) (pa_cons (pv 2) pa_nil))) pa_nil)))))) pss_nil)
      (pss_cons (ps_if (PW.pt (pw_or (pt_cmpR op_eqI (pv 5) pe_int (nomark _)) (pw_or1 (PW.pt (pw_and (pt_cmpR op_lt (pv 3) pe_int (nomark _)) (pw_and1 (pt_cmpR op_gt (pv 5) pe_int (nomark _)))))))) (pss_one (ps_ret (pe_tup (pa_cons (pe_S [98, 97, 99, 107] (by decide +kernel)) (pa_cons (pe_call ih hr rfl T.F20.mg T.F20.fn.kp T.F20.bd .nil pass0 (pa_cons (pv 0) (pa_cons (pv 1) (pa_cons (pv 2) (pa_cons (pe_op op_sub (pv 3) pe_int) (pa_cons (pe_op op_sub (pv 4) pe_int) pa_nil)))))) pa_nil))))) pss_nil)
      (pss_cons (ps_if (pt_cmpR op_eqI (pv 5) pe_int (nomark _)) (pss_cons (ps_set (i := 6) sc_Lterm.nd rfl (Or.inl rfl) (pe_call G_Ltake (hr.mono (by omega)) rfl T.F15.mg T.F15.fn.kp T.F15.bd .nil pass0 (pa_cons (pv 0) (pa_cons pe_int pa_nil))))
      (pss_one (ps_ret (pe_tup (pa_cons (pe_S [97, 103, 97, 105, 110] (by decide +kernel)) (pa_cons (pv 6) (pa_cons (pe_call ih hr rfl T.F20.mg T.F20.fn.kp T.F20.bd .nil pass0 (pa_cons (pv 0) (pa_cons (pv 1) (pa_cons (pv 2) (pa_cons (pe_op op_sub (pv 3) pe_int) (pa_cons (pe_op op_sub (pv 4) pe_int) pa_nil)))))) pa_nil))))))) pss_nil)
      (pss_cons (ps_set (i := 7) sc_Lterm.nd rfl (Or.inl rfl) (pe_op op_add pe_int (pe_call G_Ltake (hr.mono (by omega)) rfl T.F15.mg T.F15.fn.kp T.F15.bd .nil pass0 (pa_cons (pv 0) (pa_cons (pe_op op_sub (pv 3) pe_int) pa_nil)))))
      (pss_cons (ps_set (i := 8) sc_Lterm.nd rfl (Or.inl rfl) (pe_ix (ix_listK K rfl) (pe_lst (pa_cons (pe_ix ix_S (pe_S [97, 98, 99, 100, 101, 102, 103, 104, 105, 106, 107, 108, 109, 110, 111, 112, 113, 114, 115, 116, 117, 118, 119, 120, 121, 122] (by decide +kernel)) (pe_call G_Ltake (hr.mono (by omega)) rfl T.F15.mg T.F15.fn.kp T.F15.bd .nil pass0 (pa_cons (pv 0) (pa_cons pe_int pa_nil))) (fun _ _ => rfl)) (pa_cons (pe_ix ix_S (pv 2) pe_int (fun _ _ => rfl)) pa_nil))) (pe_call G_Ltake (hr.mono (by omega)) rfl T.F15.mg T.F15.fn.kp T.F15.bd .nil pass0 (pa_cons (pv 0) (pa_cons pe_int pa_nil))) (fun _ _ => rfl)))
      (pss_cons (ps_set (i := 9) sc_Lterm.nd rfl (Or.inl rfl) (pe_call ih hr rfl T.F20.mg T.F20.fn.kp T.F20.bd .nil pass0 (pa_cons (pv 0) (pa_cons (pv 1) (pa_cons (pv 2) (pa_cons (pv 7) (pa_cons (pe_op op_sub (pv 4) pe_int) pa_nil)))))))
      (pss_cons (ps_set (i := 10) sc_Lterm.nd rfl (Or.inl rfl) (pe_call ih hr rfl T.F20.mg T.F20.fn.kp T.F20.bd .nil pass0 (pa_cons (pv 0) (pa_cons (pv 1) (pa_cons (pv 2) (pa_cons (pe_op op_sub (pe_op op_sub (pv 3) pe_int) (pv 7)) (pa_cons (pe_op op_sub (pv 4) pe_int) pa_nil)))))))
      (pss_cons (ps_if (pt_cmpR op_gt (pv 5) pe_int (nomark _)) (pss_one (ps_ret (pe_tup (pa_cons (pe_S [102, 111, 114] (by decide +kernel)) (pa_cons (pv 8) (pa_cons (pv 9) (pa_cons (pv 10) pa_nil))))))) pss_nil)
      (pss_one (ps_ret (pe_tup (pa_cons (pe_S [116, 104, 101, 110] (by decide +kernel)) (pa_cons (pv 9) (pa_cons (pv 10) pa_nil))))))))))))))), ?_⟩
  obtain ⟨b, kp, known, l, room, deep, rfl, hb, hkb, hk, hkl, hkn, hl, hll, hlt, hl0, hroom, hdeep, q⟩ := h
  have hs : (100000 : Nat) < sizeLine := by decide
  have hpos : 0 < l.length := List.length_pos_iff.mpr hl
  refine ⟨_, rfl, b, 8, rfl, hb, by omega, by omega, fun form H1 hf hb1 s1 => ?_⟩
  have hk1 := s1 _ _ hk hkb
  refine share (c := room < 2 \/ deep < 1 \/ form < 2) ?_ ?_ (fun hA hB => ⟨_, rfl, _, _, rfl, rfl, _, rfl, ite2 (fun g => iteT (hA (.inl (by have := of_decide_eq_true g; omega)))) (fun g1 => ⟨_, rfl, _, _, rfl, rfl, _, rfl, ite2 (fun g => iteT (hA (.inr (.inl (by have := of_decide_eq_true g; omega))))) (fun g2 => ⟨_, rfl, _, _, rfl, rfl, _, rfl, ite2 (fun g => hA (.inr (.inr (by have := of_decide_eq_true g; omega)))) (fun g3 => hB (no3 g1 g2 g3))⟩)⟩)⟩)
  · intro _
    have walkEnd : ∀ H2, BoxAt H2 b -> SameB b H H2 -> sp_Lwalk K [.ref b, .str (S l)] H2 (fun v H3 => 2 <= sizeLine /\ ∀ p, H3 p = none -> Q (.ref p) (upd H3 p (.tup [.str (S kWalk), v]))) E0 := fun H2 hb2 s2 =>
      ⟨b, l, rfl, hb2, hl, hll, hlt, fun w H3 hw hwl hb3 s3 => ⟨by decide, fun p np => q p (.walk w) _ upd_same (by show 1 <= deep + 1; omega) ⟨hwl, by omega⟩ (fun s hs => by cases hs) (hb3.same (Same.upd np)) ((s2.trans s3).trans (SameB.of (Same.upd np)))⟩⟩
    refine ⟨_, rfl, by show 0 <= sizeLine; decide, fun p2 n2 => ?_⟩
    have s2 : SameB b H (upd H1 p2 (.lst [])) := s1.trans (SameB.of (Same.upd n2))
    have hk2 : upd H1 p2 (.lst []) kp = some (.lst (txs known)) := Same.upd n2 _ _ hk1
    have hb2 : BoxAt (upd H1 p2 (.lst [])) b := hb1.same (Same.upd n2)
    refine ⟨.list (tds known), .list [], .lst (SqL.of hk2) (rdds_txs _), .lst (SqL.of upd_same) .nil, ⟨lay_txs fun s hs => (hkn s hs).l128, rfl⟩, by show PyData.depthAll (tds known) + 1 <= 60; rw [depth_txs]; decide, _, rfl, ?_⟩
    rw [eqv_nil]
    generalize upd H1 p2 (.lst []) = H2 at s2 hk2 hb2 ⊢
    refine ite2 (fun g => ?_) (fun g => iteF ?_)
    · have hne : known ≠ [] := fun z => by rw [decide_eq_true z] at g; cases g
      have hkpos : 0 < known.length := List.length_pos_iff.mpr hne
      refine ⟨_, rfl, b, 2, rfl, hb2, by omega, by omega, fun r3 H3 hr3 hb3 s3 => ?_⟩
      have hk3 := s3 _ _ hk2 hkb
      refine ⟨_, _, rfl, rfl, _, rfl, ite2 (fun _ => ?_) (fun _ => ?_)⟩
      · refine ⟨_, rfl, _, rfl, _, rfl, kp, _, rfl, .inl (SqL.of hk3), ?_⟩
        rw [txs_len]
        refine ⟨b, (known.length : Nat), rfl, hb3, by omega, by omega, fun r4 H4 hr4 hb4 s4 => ?_⟩
        have hk4 := s4 _ _ hk3 hkb
        have hr5 : r4 < known.length := by omega
        have e5 : (txs known)[r4]? = some (.str (S known[r4])) := by unfold txs; rw [List.getElem?_map, List.getElem?_eq_getElem hr5]; rfl
        refine ⟨kp, _, _, _, rfl, rfl, SqL.of hk4, atI_nat e5, by show 2 <= sizeLine; decide, fun p5 n5 => ?_⟩
        exact q p5 (.name known[r4]) _ upd_same (by show 1 <= deep + 1; omega) (hkn _ (List.getElem_mem hr5)) (fun s hs => by rw [List.mem_singleton.mp hs]; exact List.getElem_mem hr5) (hb4.same (Same.upd n5)) (((s2.trans s3).trans s4).trans (SameB.of (Same.upd n5)))
      · exact ⟨_, rfl, _, rfl, walkEnd H3 hb3 (s2.trans s3)⟩
    · exact ⟨_, rfl, _, rfl, walkEnd H2 hb2 s2⟩
  · intro g
    have e1 : ((room - 1 : Nat) : Int) = (room : Int) - 1 := by omega
    have e2 : ((deep - 1 : Nat) : Int) = (deep : Int) - 1 := by omega
    refine share (c := form = 2 \/ (room < 3 /\ 3 < form)) ?_ ?_ (fun hA hB => ⟨_, rfl, _, _, rfl, rfl, _, rfl, ite2 (fun g => iteT (hA (.inl (by have := of_decide_eq_true g; omega)))) (fun g1 => ⟨_, rfl, _, _, rfl, rfl, _, rfl, ite2 (fun g2 => ⟨_, rfl, _, _, rfl, rfl, _, rfl, ite2 (fun g3 => hA (.inr (by have h2 := of_decide_eq_true g2; have h3 := of_decide_eq_true g3; omega))) (fun g3 => hB ?_)⟩) (fun g2 => iteF (hB ?_))⟩)⟩)
    · intro _
      refine ⟨_, rfl, _, rfl, _, rfl, _, rfl, _, _, rfl, rfl, _, rfl, _, _, rfl, rfl, b, kp, known, l, room - 1, deep - 1, by rw [e1, e2]; rfl, hb1, hkb, hk1, hkl, hkn, hl, hll, hlt, hl0, by omega, by omega, fun a t H2 ht hd ho hm hb2 s2 => ?_⟩
      refine ⟨by show 2 <= sizeLine; decide, fun p np => ?_⟩
      exact q p (.back t) _ ⟨a, upd_same, ht.same (Same.upd np)⟩ (by show dep t + 1 <= deep + 1; omega) ho hm (hb2.same (Same.upd np)) ((s1.trans s2).trans (SameB.of (Same.upd np)))
    · intro g2
      refine ⟨_, rfl, _, _, rfl, rfl, _, rfl, ite2 (fun g3 => ?_) (fun g3 => ?_)⟩
      · refine ⟨_, rfl, b, 7, rfl, hb1, by omega, by omega, fun often H2 ho hb2 s2 => ?_⟩
        have hk2 := s2 _ _ hk1 hkb
        refine ⟨_, rfl, _, rfl, _, rfl, _, rfl, _, rfl, _, _, rfl, rfl, _, rfl, _, _, rfl, rfl, b, kp, known, l, room - 1, deep - 1, by rw [e1, e2]; rfl, hb2, hkb, hk2, hkl, hkn, hl, hll, hlt, hl0, by omega, by omega, fun a t H3 ht hd ho hm hb3 s3 => ?_⟩
        refine ⟨by show 3 <= sizeLine; decide, fun p np => ?_⟩
        exact q p (.again often t) _ ⟨a, upd_same, ht.same (Same.upd np)⟩ (by show dep t + 1 <= deep + 1; omega) ⟨by omega, ho⟩ hm (hb3.same (Same.upd np)) (((s1.trans s2).trans s3).trans (SameB.of (Same.upd np)))
      · have h3 : ¬ ((form : Int) = 3) := fun z => g3 (decide_eq_true z)
        have e3 : ((room - 2 : Nat) : Int) = (room : Int) - 2 := by omega
        refine ⟨_, rfl, _, rfl, _, _, rfl, rfl, b, (room : Int) - 2, rfl, hb1, by omega, by omega, fun r2 H2 hr2 hb2 s2 => ?_⟩
        have hk2 := s2 _ _ hk1 hkb
        refine ⟨_, _, rfl, rfl, ?_⟩
        refine ⟨_, rfl, b, 26, rfl, hb2, by omega, by omega, fun r3 H3 hr3 hb3 s3 => ?_⟩
        have hk3 := s3 _ _ hk2 hkb
        have hr4 : r3 < smalls.length := by show r3 < 26; omega
        refine ⟨smalls, _, smalls[r3], rfl, rfl, by decide, atI_nat (List.getElem?_eq_getElem hr4), ?_⟩
        refine ⟨_, rfl, l, ((0 : Nat) : Int), l[0], rfl, rfl, by omega, atI_nat (List.getElem?_eq_getElem hpos), ?_⟩
        refine ⟨by show 2 <= sizeLine; decide, fun p4 n4 => ?_⟩
        have s4 := Same.upd (o := HO.lst [V.str (S [smalls[r3]]), V.str (S [l[0]])]) n4
        have h4 : upd H3 p4 (HO.lst [V.str (S [smalls[r3]]), V.str (S [l[0]])]) p4 = some (HO.lst [V.str (S [smalls[r3]]), V.str (S [l[0]])]) := upd_same
        generalize upd H3 p4 (HO.lst [V.str (S [smalls[r3]]), V.str (S [l[0]])]) = H4 at s4 h4 ⊢
        have hk4 := s4 _ _ hk3
        have hb4 := hb3.same s4
        have n4b : p4 ≠ b := hb3.ne n4
        refine ⟨_, rfl, b, 2, rfl, hb4, by omega, by omega, fun r5 H5 hr5 hb5 s5 => ?_⟩
        have hk5 := s5 _ _ hk4 hkb
        obtain ⟨c, hc, hcs⟩ := two_getS (List.getElem_mem hr4) (hl0 _ (List.getElem?_eq_getElem hpos)) r5 hr5
        refine ⟨p4, _, _, _, rfl, rfl, SqL.of (s5 _ _ h4 n4b), atI_nat hc, ?_⟩
        have s05 : SameB b H H5 := ((((s1.trans s2).trans s3).trans (SameB.of s4)).trans s5)
        refine ⟨_, rfl, _, rfl, _, rfl, _, rfl, _, rfl, _, _, rfl, rfl, b, kp, known, l, 1 + r2, deep - 1, by rw [e2]; simp, hb5, hkb, hk5, hkl, hkn, hl, hll, hlt, hl0, by omega, by omega, fun a t H6 ht hd ho hm hb6 s6 => ?_⟩
        have hk6 := s6 _ _ hk5 hkb
        have e6 : ((room - 1 - (1 + r2) : Nat) : Int) = (room : Int) - 1 - (1 + r2) := by omega
        refine ⟨_, rfl, _, rfl, _, rfl, _, rfl, _, _, rfl, rfl, _, rfl, _, _, rfl, rfl, _, rfl, _, _, rfl, rfl, b, kp, known, l, room - 1 - (1 + r2), deep - 1, by rw [e2, e6]; rfl, hb6, hkb, hk6, hkl, hkn, hl, hll, hlt, hl0, by omega, by omega, fun a2 t2 H7 ht2 hd2 ho2 hm2 hb7 s7 => ?_⟩
        have ht7 := ht.ts (s7.tsB hb6)
        have s07 := (s05.trans s6).trans s7
        refine ⟨_, rfl, _, _, rfl, rfl, _, rfl, ite2 (fun _ => ?_) (fun _ => ?_)⟩
        · refine ⟨_, rfl, _, rfl, _, rfl, by show 4 <= sizeLine; decide, fun p np => ?_⟩
          refine q p (.fr c t t2) _ ⟨a, a2, upd_same, ht7.same (Same.upd np), ht2.same (Same.upd np)⟩ (by show max (dep t) (dep t2) + 1 <= deep + 1; omega) ⟨hcs, ho, ho2⟩ (fun s hs => ?_) (hb7.same (Same.upd np)) (s07.trans (SameB.of (Same.upd np)))
          rcases List.mem_append.mp hs with z | z
          · exact hm s z
          · exact hm2 s z
        · refine ⟨_, rfl, _, rfl, by show 3 <= sizeLine; decide, fun p np => ?_⟩
          refine q p (.thn t t2) _ ⟨a, a2, upd_same, ht7.same (Same.upd np), ht2.same (Same.upd np)⟩ (by show max (dep t) (dep t2) + 1 <= deep + 1; omega) ⟨ho, ho2⟩ (fun s hs => ?_) (hb7.same (Same.upd np)) (s07.trans (SameB.of (Same.upd np)))
          rcases List.mem_append.mp hs with z | z
          · exact hm s z
          · exact hm2 s z
    · have h1 : ¬ ((form : Int) = 2) := fun z => g1 (decide_eq_true z)
      have h3 : ¬ ((3 : Int) < form) := fun z => g3 (decide_eq_true z)
      omega
    · have h1 : ¬ ((form : Int) = 2) := fun z => g1 (decide_eq_true z)
      have h2 : ¬ ((room : Int) < 3) := fun z => g2 (decide_eq_true z)
      omega
theorem ok_Lterm (T : Txt P w K mg f0 f1 f2 f3 f4 f5 f6 f7 f8 f9 f10 f11 f12 f13 f14 f15 f17 f18 f19 f20 f21 f22 f23 f24 f25 f26 k_COUNTS k_SIGNS d0 d1 d2 d3 d4 d5 d6 d7 d8 d9 d10 d11 d12 d13 d14 d15 d17 d18 d19 d20 d21 d22 d23 d24 d25 d26) : ∀ n, FnOk P w K mg base CX0 (3 + n) f20 d20 ["_law_box_here", "_law_known", "_law_pool_here", "_law_room", "_law_deep"] (sp_Lterm K n)
  | 0 => fn_never fun vs H Q E h => nev_Lterm h
  | n + 1 => step_Lterm T n (ok_Lterm T n)
theorem ok_Lsmallprogram (T : Txt P w K mg f0 f1 f2 f3 f4 f5 f6 f7 f8 f9 f10 f11 f12 f13 f14 f15 f17 f18 f19 f20 f21 f22 f23 f24 f25 f26 k_COUNTS k_SIGNS d0 d1 d2 d3 d4 d5 d6 d7 d8 d9 d10 d11 d12 d13 d14 d15 d17 d18 d19 d20 d21 d22 d23 d24 d25 d26) : FnOk P w K mg base CX0 12 f23 d23 ["_law_box_here"] (sp_Lsmallprogram K) := by
  have G_Lnames := ok_Lnames (P := P) (w := w) (base := base) T
  have G_Lpool := ok_Lpool (P := P) (w := w) (base := base) T
  have G_Ltake := ok_Ltake (P := P) (w := w) (base := base) T
  have G_Lterm := ok_Lterm (P := P) (w := w) (base := base) T
  refine T.F23.fn.ok sc_Lsmallprogram (fun vs H Q E h => len_Lsmallprogram h) (fun cdv A outer s H vs Q E hr h => ?_)
  refine ⟨_, (pss_cons (ps_set (i := 1) sc_Lsmallprogram.nd rfl (Or.inl rfl) (pe_call G_Lnames (hr.mono (by decide)) rfl T.F17.mg T.F17.fn.kp T.F17.bd .nil pass0 (pa_cons (pv 0) (pa_cons pe_int pa_nil))))
      (pss_cons (ps_set (i := 2) sc_Lsmallprogram.nd rfl (Or.inl rfl) (pe_call G_Lpool (hr.mono (by decide)) rfl T.F18.mg T.F18.fn.kp T.F18.bd .nil pass0 (pa_cons (pv 0) pa_nil)))
      (pss_cons (ps_asg (pe_ix (ix_listK K rfl) (pe_lst (pa_cons (pe_tup (pa_cons pe_int (pa_cons pe_int pa_nil))) (pa_cons (pe_tup (pa_cons pe_int (pa_cons pe_int pa_nil))) (pa_cons (pe_tup (pa_cons pe_int (pa_cons pe_int pa_nil))) (pa_cons (pe_tup (pa_cons pe_int (pa_cons pe_int pa_nil))) pa_nil))))) (pe_call G_Ltake (hr.mono (by decide)) rfl T.F15.mg T.F15.fn.kp T.F15.bd .nil pass0 (pa_cons (pv 0) (pa_cons pe_int pa_nil))) (fun _ _ => rfl)) (pg_tupK (n := 2) K rfl rfl (pgs_cons (pg_name (i := 3) sc_Lsmallprogram.nd rfl (Or.inl rfl)) (pgs_cons (pg_name (i := 4) sc_Lsmallprogram.nd rfl (Or.inl rfl)) pgs_nil))))
      (pss_cons (ps_set (i := 5) sc_Lsmallprogram.nd rfl (Or.inl rfl) (pe_lst pa_nil))
      (pss_cons (ps_for PassesOwn.never rfl (pi_range1 rfl T.z_range (pa_cons (pe_op op_add pe_int (pe_call G_Ltake (hr.mono (by decide)) rfl T.F15.mg T.F15.fn.kp T.F15.bd .nil pass0 (pa_cons (pv 0) (pa_cons (pv 3) pa_nil)))) pa_nil)) (pg_name (i := 6) sc_Lsmallprogram.nd rfl (Or.inl rfl)) (pss_cons (ps_set (i := 7) sc_Lsmallprogram.nd rfl (Or.inl rfl) (pe_ix (ix_listK K rfl) (pv 1) (pe_ix (ix_listK K rfl) (pe_lst (pa_cons (pv 6) (pa_cons (pe_call G_Ltake (hr.mono (by decide)) rfl T.F15.mg T.F15.fn.kp T.F15.bd .nil pass0 (pa_cons (pv 0) (pa_cons pe_int pa_nil))) pa_nil))) (pe_callTy call_int1 rfl T.z_int boot_int (pa_cons (pe_cmpR op_eqI (pe_call G_Ltake (hr.mono (by decide)) rfl T.F15.mg T.F15.fn.kp T.F15.bd .nil pass0 (pa_cons (pv 0) (pa_cons pe_int pa_nil))) pe_int (nomark _)) pa_nil)) (fun _ _ => rfl)) (fun _ _ => rfl)))
      (pss_one (ps_expr (pe_bmK K rfl PySem.F.plainAttrs_list PySem.F.slot_list_append PySem.F.type_list_append mt_append (pv 5) (pa_cons (pe_tup (pa_cons (pv 7) (pa_cons (pe_call (G_Lterm 8) (hr.mono (by decide)) rfl T.F20.mg T.F20.fn.kp T.F20.bd .nil pass0 (pa_cons (pv 0) (pa_cons (pv 1) (pa_cons (pv 2) (pa_cons (pv 4) (pa_cons pe_int pa_nil)))))) pa_nil))) pa_nil))))))
      (pss_one (ps_ret (pe_callTy (call_tuple_ofK K rfl) rfl T.z_tuple boot_tuple (pa_cons (pv 5) pa_nil))))))))), ?_⟩
  obtain ⟨b, rfl, hb, q⟩ := h
  have hs : (900001 : Nat) < sizeLine := by decide
  refine ⟨_, rfl, b, 8, rfl, hb, by decide, fun qn nsn H1 nq qb hq hln hnf bx1 s1 => ?_⟩
  refine ⟨_, rfl, b, rfl, bx1, fun l H2 hl0 hl6 hlt hls bx2 s2 => ?_⟩
  have hq2 := s2 _ _ hq qb
  have s02 := s1.trans s2
  have two : 2 <= sizeLine := by decide
  refine ⟨two, fun t1 n1 => ⟨two, fun t2 n2 => ⟨two, fun t3 n3 => ⟨two, fun t4 n4 => ?_⟩⟩⟩⟩
  refine ⟨by show 4 <= sizeLine; decide, fun pl npl => ?_⟩
  have e1 := Same.upd (o := HO.tup [V.int 8, V.int 2]) n1
  have e2 := Same.upd (o := HO.tup [V.int 5, V.int 4]) n2
  have e3 := Same.upd (o := HO.tup [V.int 2, V.int 11]) n3
  have e4 := Same.upd (o := HO.tup [V.int 3, V.int 7]) n4
  have e5 := Same.upd (o := HO.lst [V.ref t1, V.ref t2, V.ref t3, V.ref t4]) npl
  have h4 := e5 _ _ (upd_same (H := upd (upd (upd H2 t1 (HO.tup [V.int 8, V.int 2])) t2 (HO.tup [V.int 5, V.int 4])) t3 (HO.tup [V.int 2, V.int 11])) (a := t4) (o := HO.tup [V.int 3, V.int 7]))
  have h3 := e5 _ _ (e4 _ _ (upd_same (H := upd (upd H2 t1 (HO.tup [V.int 8, V.int 2])) t2 (HO.tup [V.int 5, V.int 4])) (a := t3) (o := HO.tup [V.int 2, V.int 11])))
  have h2 := e5 _ _ (e4 _ _ (e3 _ _ (upd_same (H := upd H2 t1 (HO.tup [V.int 8, V.int 2])) (a := t2) (o := HO.tup [V.int 5, V.int 4]))))
  have h1 := e5 _ _ (e4 _ _ (e3 _ _ (e2 _ _ (upd_same (H := H2) (a := t1) (o := HO.tup [V.int 8, V.int 2])))))
  have e25 := e1.trans (e2.trans (e3.trans (e4.trans e5)))
  have hpl : upd (upd (upd (upd (upd H2 t1 (HO.tup [V.int 8, V.int 2])) t2 (HO.tup [V.int 5, V.int 4])) t3 (HO.tup [V.int 2, V.int 11])) t4 (HO.tup [V.int 3, V.int 7])) pl (HO.lst [V.ref t1, V.ref t2, V.ref t3, V.ref t4]) pl = some (HO.lst [V.ref t1, V.ref t2, V.ref t3, V.ref t4]) := upd_same
  have bx5 := bx2.same e25
  have plb : pl ≠ b := fun z => by obtain ⟨u, v, g⟩ := bx5; rw [<- z, hpl] at g; cases g
  generalize upd (upd (upd (upd (upd H2 t1 (HO.tup [V.int 8, V.int 2])) t2 (HO.tup [V.int 5, V.int 4])) t3 (HO.tup [V.int 2, V.int 11])) t4 (HO.tup [V.int 3, V.int 7])) pl (HO.lst [V.ref t1, V.ref t2, V.ref t3, V.ref t4]) = H5 at h1 h2 h3 h4 e25 hpl bx5 ⊢
  refine ⟨_, rfl, b, 4, rfl, bx5, by decide, by decide, fun r H6 hr6 bx6 s6 => ?_⟩
  obtain ⟨T0, top, room, hT0, hT1, htop, hroom⟩ : ∃ (T0 : Addr) (top room : Nat), [V.ref t1, V.ref t2, V.ref t3, V.ref t4][r]? = some (V.ref T0) /\ H6 T0 = some (.tup [.int top, .int room]) /\ (1 <= top /\ top <= 8) /\ room <= 12 := by
    have ts6 : TSame H5 H6 := s6.tsB bx5
    have hr : r = 0 \/ r = 1 \/ r = 2 \/ r = 3 := by omega
    rcases hr with rfl | rfl | rfl | rfl
    · exact ⟨t1, 8, 2, rfl, ts6 _ _ h1, by decide, by decide⟩
    · exact ⟨t2, 5, 4, rfl, ts6 _ _ h2, by decide, by decide⟩
    · exact ⟨t3, 2, 11, rfl, ts6 _ _ h3, by decide, by decide⟩
    · exact ⟨t4, 3, 7, rfl, ts6 _ _ h4, by decide, by decide⟩
  refine ⟨pl, _, _, _, rfl, rfl, SqL.of (s6 _ _ hpl plb), atI_nat hT0, ?_⟩
  refine ⟨T0, _, rfl, SqT.of hT1, rfl, _, _, rfl, _, _, rfl, rfl, ?_⟩
  have hq6 := s6 _ _ (e25 _ _ hq2) qb
  have s06 := (s02.after e25).trans s6
  refine ⟨Nat.zero_le _, fun p3 n3' => ?_⟩
  have sp := Same.upd (o := HO.lst []) n3'
  have hp7 : upd H6 p3 (HO.lst []) p3 = some (HO.lst (rwv [])) := upd_same
  have b3 : p3 ≠ b := bx6.ne n3'
  have n30 : H p3 = none := s06.none n3' b3
  have q3 : qn ≠ p3 := ne_of_none hq6 n3'
  have hq7 := sp _ _ hq6
  have bx7 := bx6.same sp
  have s07 := s06.after sp
  generalize upd H6 p3 (HO.lst []) = H7 at sp hp7 hq7 bx7 s07 ⊢
  refine ⟨_, rfl, _, rfl, b, top, rfl, bx7, by omega, by omega, fun m H8 hm8 bx8 s8 => ?_⟩
  refine ⟨_, _, rfl, rfl, _, rfl, by omega, by omega, ?_⟩
  refine for_range (fun i σ H' => ∃ (kv nv : Option V) (ks : List Rw), σ = [some (.ref b), some (.ref qn), some (.str (S l)), some (.int (top : Nat)), some (.int (room : Nat)), some (.ref p3), kv, nv] /\ H' p3 = some (.lst (rwv ks)) /\ H' qn = some (.lst (txs nsn)) /\ (∀ k ∈ ks, RwF H' k) /\ ks.length = i /\ BoxAt H' b /\ SameB b H H')
    ⟨none, none, [], rfl, s8 _ _ hp7 b3, s8 _ _ hq7 qb, fun _ h => absurd h List.not_mem_nil, rfl, bx8, s07.trans s8⟩ ?_ ?_
  · rintro i σ H9 hi ⟨kv, nv, ks, rfl, hp9, hq9, hk9, hkl, bx9, s9⟩
    refine ⟨_, rfl, _, rfl, _, rfl, b, 8, rfl, bx9, by decide, by decide, fun r8 HA hr8 bxA sA => ?_⟩
    refine ⟨two, fun pk npk => ?_⟩
    have ek := Same.upd (o := HO.lst [V.int (0 + (i : Int)), V.int (r8 : Nat)]) npk
    have hpk : upd HA pk (HO.lst [V.int (0 + (i : Int)), V.int (r8 : Nat)]) pk = some (HO.lst [V.int (0 + (i : Int)), V.int (r8 : Nat)]) := upd_same
    have bxB := bxA.same ek
    have pkb : pk ≠ b := bxA.ne npk
    generalize upd HA pk (HO.lst [V.int (0 + (i : Int)), V.int (r8 : Nat)]) = HB at ek hpk bxB ⊢
    refine ⟨_, rfl, b, 4, rfl, bxB, by decide, by decide, fun r9 HC hr9 bxC sC => ?_⟩
    obtain ⟨j, hj, hj8⟩ : ∃ j : Nat, atI [V.int (0 + (i : Int)), V.int (r8 : Nat)] (if decide ((r9 : Int) = 0) = true then 1 else 0) = some (V.int (j : Nat)) /\ j < 8 := by
      by_cases g : (r9 : Int) = 0
      · rw [decide_eq_true g]; exact ⟨r8, rfl, by omega⟩
      · rw [decide_eq_false g, Int.zero_add]; exact ⟨i, rfl, by omega⟩
    refine ⟨_, _, rfl, rfl, .inr ⟨_, rfl, pk, _, _, _, rfl, rfl, SqL.of (sC _ _ hpk pkb), hj, ?_⟩⟩
    have s9C : SameB b H9 HC := (sA.after ek).trans sC
    have hqC := s9C _ _ hq9 qb
    have hpC := s9C _ _ hp9 b3
    have hjn : j < nsn.length := by omega
    have hnm := hnf _ (List.getElem_mem hjn)
    have hng := List.getElem?_eq_getElem hjn
    generalize nsn[j] = nm at hnm hng
    refine ⟨qn, _, _, _, rfl, rfl, SqL.of hqC, atI_nat (show (txs nsn)[j]? = some (.str (S nm)) by unfold txs; rw [List.getElem?_map, hng]; rfl), ?_⟩
    refine ⟨_, rfl, .inl ⟨rfl, _, SqL.of hpC⟩, _, rfl, _, rfl, _, rfl, _, rfl, _, rfl, b, qn, nsn, l, room, 5, rfl, bxC, qb, hqC, by omega, hnf, hl0, hl6, hlt, hls, hroom, by decide, fun ta t HD hta hdp htf _ bxD sD => ?_⟩
    refine ⟨two, fun tr ntr => ?_⟩
    have sr := Same.upd (o := HO.tup [V.str (S nm), V.ref ta]) ntr
    have htr : upd HD tr (HO.tup [V.str (S nm), V.ref ta]) tr = some (HO.tup [V.str (S nm), V.ref ta]) := upd_same
    generalize upd HD tr (HO.tup [V.str (S nm), V.ref ta]) = HE at sr htr ⊢
    have s9E : SameB b H9 HE := (s9C.trans sD).after sr
    have hpE := s9E _ _ hp9 b3
    have hqE := s9E _ _ hq9 qb
    refine ⟨p3, _, _, rfl, rfl, hpE, by rw [rwv_len]; omega, ?_⟩
    rw [rwv_snoc ks ⟨tr, ta, nm, t⟩]
    have tU := TSame.updL (o := HO.lst (rwv (ks ++ [⟨tr, ta, nm, t⟩]))) hpE
    have ts9 : TSame H9 HE := s9E.tsB bx9
    refine ⟨_, _, ks ++ [⟨tr, ta, nm, t⟩], rfl, upd_same, by rw [upd_ne q3]; exact hqE, fun k hk => ?_, by rw [List.length_append, hkl]; rfl, (bxD.same sr).updN b3, (s9.trans s9E).updN n30⟩
    rcases List.mem_append.mp hk with g | g
    · exact (hk9 k g).ts (ts9.trans tU)
    · rw [List.mem_singleton.mp g]
      exact ⟨tU _ _ htr, (hta.ts (TSame.of sr)).ts tU, by show dep t <= 7; omega, hnm, htf⟩
  · rintro σ H9 ⟨kv, nv, ks, rfl, hp9, hq9, hk9, hkl, bx9, s9⟩
    refine ⟨_, rfl, p3, _, rfl, .inl ⟨SqL.of hp9, fun t nt => ?_⟩⟩
    have s10 := Same.upd (o := HO.tup (rwv ks)) nt
    exact q t ks _ ⟨upd_same, fun k hk => (hk9 k hk).ts (TSame.of s10), fun z => by rw [z] at hkl; simp at hkl; omega, by omega⟩ (by omega) (bx9.same s10) (s9.after s10)
theorem ok_Lbox (T : Txt P w K mg f0 f1 f2 f3 f4 f5 f6 f7 f8 f9 f10 f11 f12 f13 f14 f15 f17 f18 f19 f20 f21 f22 f23 f24 f25 f26 k_COUNTS k_SIGNS d0 d1 d2 d3 d4 d5 d6 d7 d8 d9 d10 d11 d12 d13 d14 d15 d17 d18 d19 d20 d21 d22 d23 d24 d25 d26) : FnOk P w K mg base CX0 1 f14 d14 ["_law_script", "_law_k"] (sp_Lbox K) := by
  refine T.F14.fn.ok sc_Lbox (fun vs H Q E h => len_Lbox h) (fun cdv A outer s H vs Q E hr h => ?_)
  refine ⟨_, (pss_cons (ps_set (i := 2) sc_Lbox.nd rfl (Or.inl rfl) (pe_op op_add (pe_op op_mul pe_int (pv 1)) pe_int))
      (pss_cons (ps_if (pt_cmpR op_lt (pv 1) (pe_callB (call_len_seqK K rfl) rfl T.z_len PySem.boot_len (pa_cons (pv 0) pa_nil)) (nomark _)) (pss_one (ps_set (i := 2) sc_Lbox.nd rfl (Or.inl rfl) (pe_ix (ix_listK K rfl) (pv 0) (pv 1) (fun _ _ => rfl)))) (pss_one (ps_if (pt_cmpR op_gt (pe_callB (call_len_seqK K rfl) rfl T.z_len PySem.boot_len (pa_cons (pv 0) pa_nil)) pe_int (nomark _)) (pss_one (ps_set (i := 2) sc_Lbox.nd rfl (Or.inl rfl) (pe_op op_add (pv 2) (pe_op op_mul (pe_op op_mod (pe_ix (ix_listK K rfl) (pv 0) (pe_op op_mod (pv 1) (pe_callB (call_len_seqK K rfl) rfl T.z_len PySem.boot_len (pa_cons (pv 0) pa_nil))) (fun _ _ => rfl)) pe_int) pe_int)))) pss_nil)))
      (pss_cons (ps_set (i := 3) sc_Lbox.nd rfl (Or.inl rfl) (pe_op op_mod (pe_op op_pow (pe_op op_add (pe_op op_add (pe_op op_mod (pv 2) pe_int) (pe_op op_mul pe_int (pv 1))) pe_int) pe_int) pe_int))
      (pss_one (ps_ret (pe_lst (pa_cons (pe_ix (ix_listK K rfl) (pe_lst (pa_cons pe_int (pa_cons (pv 2) pa_nil))) (pe_callTy call_int1 rfl T.z_int boot_int (pa_cons (pe_cmpR op_ge (pv 2) (pe_op op_pow pe_int pe_int) (nomark _)) pa_nil)) (fun _ _ => rfl)) (pa_cons (pe_op op_add (pe_op op_mod (pv 3) pe_int) pe_int) pa_nil)))))))), ?_⟩
  obtain ⟨a, ns, k, rfl, hS, hk, q⟩ := h
  have hp : (0 : Int) < 2147483629 := by decide
  (repeat (first | refine ⟨_, rfl, ?_⟩ | refine ⟨_, _, rfl, rfl, ?_⟩ | refine ⟨rfl, ?_⟩ | refine And.intro (by first | decide | omega | assumption | exact Nat.le_of_ble_eq_true rfl | exact .inl ⟨by decide, by decide⟩ | exact .inr ⟨by decide, by decide⟩ | exact ⟨by decide, by decide⟩ | exact ⟨by omega, by omega⟩) ?_))
  refine ⟨a, _, rfl, .inl hS, ?_⟩
  (repeat (first | refine ⟨_, rfl, ?_⟩ | refine ⟨_, _, rfl, rfl, ?_⟩ | refine ⟨rfl, ?_⟩ | refine And.intro (by first | decide | omega | assumption | exact Nat.le_of_ble_eq_true rfl | exact .inl ⟨by decide, by decide⟩ | exact .inr ⟨by decide, by decide⟩ | exact ⟨by decide, by decide⟩ | exact ⟨by omega, by omega⟩) ?_))
  refine ite2 (fun e => ?_) (fun e => ?_)
  · have e' : (k : Int) < ((ns.map V.int).length : Nat) := of_decide_eq_true e
    rw [List.length_map] at e'
    obtain ⟨z, hz⟩ := ints_at (ns := ns) (i := k) (by omega)
    (repeat (first | refine ⟨_, rfl, ?_⟩ | refine ⟨_, _, rfl, rfl, ?_⟩ | refine ⟨rfl, ?_⟩ | refine And.intro (by first | decide | omega | assumption | exact Nat.le_of_ble_eq_true rfl | exact .inl ⟨by decide, by decide⟩ | exact .inr ⟨by decide, by decide⟩ | exact ⟨by decide, by decide⟩ | exact ⟨by omega, by omega⟩) ?_))
    refine ⟨a, _, k, _, rfl, rfl, hS, atI_nat hz, ?_⟩
    (repeat (first | refine ⟨_, rfl, ?_⟩ | refine ⟨_, _, rfl, rfl, ?_⟩ | refine ⟨rfl, ?_⟩ | refine And.intro (by first | decide | omega | assumption | exact Nat.le_of_ble_eq_true rfl | exact .inl ⟨by decide, by decide⟩ | exact .inr ⟨by decide, by decide⟩ | exact ⟨by decide, by decide⟩ | exact ⟨by omega, by omega⟩) ?_))
    refine fun p1 n1 => ?_
    (repeat (first | refine ⟨_, rfl, ?_⟩ | refine ⟨_, _, rfl, rfl, ?_⟩ | refine ⟨rfl, ?_⟩ | refine And.intro (by first | decide | omega | assumption | exact Nat.le_of_ble_eq_true rfl | exact .inl ⟨by decide, by decide⟩ | exact .inr ⟨by decide, by decide⟩ | exact ⟨by decide, by decide⟩ | exact ⟨by omega, by omega⟩) ?_))
    refine .inr ⟨_, rfl, ?_⟩
    obtain ⟨y, hy⟩ := box_at _ z
    refine ⟨p1, _, _, _, rfl, rfl, SqL.of upd_same, hy, ?_⟩
    (repeat (first | refine ⟨_, rfl, ?_⟩ | refine ⟨_, _, rfl, rfl, ?_⟩ | refine ⟨rfl, ?_⟩ | refine And.intro (by first | decide | omega | assumption | exact Nat.le_of_ble_eq_true rfl | exact .inl ⟨by decide, by decide⟩ | exact .inr ⟨by decide, by decide⟩ | exact ⟨by decide, by decide⟩ | exact ⟨by omega, by omega⟩) ?_))
    exact fun p2 n2 => q p2 _ (Same.free (Same.upd n1) n2) ⟨_, _, upd_same⟩ ((Same.upd n1).trans (Same.upd n2))
  · (repeat (first | refine ⟨_, rfl, ?_⟩ | refine ⟨_, _, rfl, rfl, ?_⟩ | refine ⟨rfl, ?_⟩ | refine And.intro (by first | decide | omega | assumption | exact Nat.le_of_ble_eq_true rfl | exact .inl ⟨by decide, by decide⟩ | exact .inr ⟨by decide, by decide⟩ | exact ⟨by decide, by decide⟩ | exact ⟨by omega, by omega⟩) ?_))
    refine ⟨a, _, rfl, .inl hS, ?_⟩
    (repeat (first | refine ⟨_, rfl, ?_⟩ | refine ⟨_, _, rfl, rfl, ?_⟩ | refine ⟨rfl, ?_⟩ | refine And.intro (by first | decide | omega | assumption | exact Nat.le_of_ble_eq_true rfl | exact .inl ⟨by decide, by decide⟩ | exact .inr ⟨by decide, by decide⟩ | exact ⟨by decide, by decide⟩ | exact ⟨by omega, by omega⟩) ?_))
    refine ite2 (fun e2 => ?_) (fun e2 => ?_)
    · have e' : (0 : Int) < ((ns.map V.int).length : Nat) := of_decide_eq_true e2
      have hl : (0 : Int) < (ns.length : Int) := by rw [List.length_map] at e'; exact e'
      have m1 : 0 <= (k : Int) % (ns.length : Int) := Int.emod_nonneg _ (by omega)
      have m2 : (k : Int) % (ns.length : Int) < (ns.length : Int) := Int.emod_lt_of_pos _ hl
      obtain ⟨z, hz⟩ := ints_at (ns := ns) (i := ((k : Int) % (ns.length : Int)).toNat) (by omega)
      have hz' : atI (ns.map V.int) ((k : Int) % ((ns.map V.int).length : Nat)) = some (V.int z) := by
        have := atI_nat hz
        rw [Int.toNat_of_nonneg m1] at this
        rw [List.length_map]
        exact this
      (repeat (first | refine ⟨_, rfl, ?_⟩ | refine ⟨_, _, rfl, rfl, ?_⟩ | refine ⟨rfl, ?_⟩ | refine And.intro (by first | decide | omega | assumption | exact Nat.le_of_ble_eq_true rfl | exact .inl ⟨by decide, by decide⟩ | exact .inr ⟨by decide, by decide⟩ | exact ⟨by decide, by decide⟩ | exact ⟨by omega, by omega⟩) ?_))
      refine ⟨a, _, rfl, .inl hS, ?_⟩
      (repeat (first | refine ⟨_, rfl, ?_⟩ | refine ⟨_, _, rfl, rfl, ?_⟩ | refine ⟨rfl, ?_⟩ | refine And.intro (by first | decide | omega | assumption | exact Nat.le_of_ble_eq_true rfl | exact .inl ⟨by decide, by decide⟩ | exact .inr ⟨by decide, by decide⟩ | exact ⟨by decide, by decide⟩ | exact ⟨by omega, by omega⟩) ?_))
      refine ⟨a, _, _, _, rfl, rfl, hS, hz', ?_⟩
      (repeat (first | refine ⟨_, rfl, ?_⟩ | refine ⟨_, _, rfl, rfl, ?_⟩ | refine ⟨rfl, ?_⟩ | refine And.intro (by first | decide | omega | assumption | exact Nat.le_of_ble_eq_true rfl | exact .inl ⟨by decide, by decide⟩ | exact .inr ⟨by decide, by decide⟩ | exact ⟨by decide, by decide⟩ | exact ⟨by omega, by omega⟩) ?_))
      refine fun p1 n1 => ?_
      (repeat (first | refine ⟨_, rfl, ?_⟩ | refine ⟨_, _, rfl, rfl, ?_⟩ | refine ⟨rfl, ?_⟩ | refine And.intro (by first | decide | omega | assumption | exact Nat.le_of_ble_eq_true rfl | exact .inl ⟨by decide, by decide⟩ | exact .inr ⟨by decide, by decide⟩ | exact ⟨by decide, by decide⟩ | exact ⟨by omega, by omega⟩) ?_))
      refine .inr ⟨_, rfl, ?_⟩
      obtain ⟨y, hy⟩ := box_at _ _
      refine ⟨p1, _, _, _, rfl, rfl, SqL.of upd_same, hy, ?_⟩
      (repeat (first | refine ⟨_, rfl, ?_⟩ | refine ⟨_, _, rfl, rfl, ?_⟩ | refine ⟨rfl, ?_⟩ | refine And.intro (by first | decide | omega | assumption | exact Nat.le_of_ble_eq_true rfl | exact .inl ⟨by decide, by decide⟩ | exact .inr ⟨by decide, by decide⟩ | exact ⟨by decide, by decide⟩ | exact ⟨by omega, by omega⟩) ?_))
      exact fun p2 n2 => q p2 _ (Same.free (Same.upd n1) n2) ⟨_, _, upd_same⟩ ((Same.upd n1).trans (Same.upd n2))
    · (repeat (first | refine ⟨_, rfl, ?_⟩ | refine ⟨_, _, rfl, rfl, ?_⟩ | refine ⟨rfl, ?_⟩ | refine And.intro (by first | decide | omega | assumption | exact Nat.le_of_ble_eq_true rfl | exact .inl ⟨by decide, by decide⟩ | exact .inr ⟨by decide, by decide⟩ | exact ⟨by decide, by decide⟩ | exact ⟨by omega, by omega⟩) ?_))
      refine fun p1 n1 => ?_
      (repeat (first | refine ⟨_, rfl, ?_⟩ | refine ⟨_, _, rfl, rfl, ?_⟩ | refine ⟨rfl, ?_⟩ | refine And.intro (by first | decide | omega | assumption | exact Nat.le_of_ble_eq_true rfl | exact .inl ⟨by decide, by decide⟩ | exact .inr ⟨by decide, by decide⟩ | exact ⟨by decide, by decide⟩ | exact ⟨by omega, by omega⟩) ?_))
      refine .inr ⟨_, rfl, ?_⟩
      obtain ⟨y, hy⟩ := box_at _ _
      refine ⟨p1, _, _, _, rfl, rfl, SqL.of upd_same, hy, ?_⟩
      (repeat (first | refine ⟨_, rfl, ?_⟩ | refine ⟨_, _, rfl, rfl, ?_⟩ | refine ⟨rfl, ?_⟩ | refine And.intro (by first | decide | omega | assumption | exact Nat.le_of_ble_eq_true rfl | exact .inl ⟨by decide, by decide⟩ | exact .inr ⟨by decide, by decide⟩ | exact ⟨by decide, by decide⟩ | exact ⟨by omega, by omega⟩) ?_))
      exact fun p2 n2 => q p2 _ (Same.free (Same.upd n1) n2) ⟨_, _, upd_same⟩ ((Same.upd n1).trans (Same.upd n2))
theorem step_Ltermtext (T : Txt P w K mg f0 f1 f2 f3 f4 f5 f6 f7 f8 f9 f10 f11 f12 f13 f14 f15 f17 f18 f19 f20 f21 f22 f23 f24 f25 f26 k_COUNTS k_SIGNS d0 d1 d2 d3 d4 d5 d6 d7 d8 d9 d10 d11 d12 d13 d14 d15 d17 d18 d19 d20 d21 d22 d23 d24 d25 d26) (n : Nat) (ih : FnOk P w K mg base CX0 (1 + n) f21 d21 ["_law_term_here"] (sp_Ltermtext K n)) : FnOk P w K mg base CX0 (1 + n + 1) f21 d21 ["_law_term_here"] (sp_Ltermtext K (n + 1)) := by
  refine T.F21.fn.ok sc_Ltermtext (fun vs H Q E h => len_Ltermtext h) (fun cdv A outer s H vs Q E hr h => ?_)
  refine ⟨_, (pss_cons (ps_if (pt_cmpR op_eqS (pe_ix (ix_tupK K rfl) (pv 0) pe_int (fun _ _ => rfl)) (pe_S [119, 97, 108, 107] (by decide +kernel)) (nomark _)) (pss_one (ps_ret (pe_op op_addS (pe_op op_addS (pe_S [39] (by decide +kernel)) (pe_ix (ix_tupK K rfl) (pv 0) pe_int (fun _ _ => rfl))) (pe_S [39] (by decide +kernel))))) pss_nil)
      (pss_cons (ps_if (pt_cmpR op_eqS (pe_ix (ix_tupK K rfl) (pv 0) pe_int (fun _ _ => rfl)) (pe_S [110, 97, 109, 101] (by decide +kernel)) (nomark _)) (pss_one (ps_ret (pe_ix (ix_tupK K rfl) (pv 0) pe_int (fun _ _ => rfl)))) pss_nil)
      (pss_cons (ps_set (i := 1) sc_Ltermtext.nd rfl (Or.inl rfl) (pe_op op_addS (pe_S [40] (by decide +kernel)) (pe_ix (ix_tupK K rfl) (pv 0) pe_int (fun _ _ => rfl))))
      (pss_cons (ps_for PassesOwn.never rfl (pi_tupK K rfl (pe_slice (sl_tupK K rfl) (pv 0) (po_some pe_int) po_none)) (pg_name (i := 2) sc_Ltermtext.nd rfl (Or.inl rfl)) (pss_one (ps_if (pt_val (pe_callB (call_isTupG K rfl) rfl T.z_isinstance boot_isinstance (pa_cons (pv 2) (pa_cons (pe_bltn (v := .ty "tuple") rfl T.z_tuple boot_tuple rfl) pa_nil)))) (pss_one (ps_set (i := 1) sc_Ltermtext.nd rfl (Or.inl rfl) (pe_op op_addS (pe_op op_addS (pv 1) (pe_S [32] (by decide +kernel))) (pe_call ih hr rfl T.F21.mg T.F21.fn.kp T.F21.bd .nil pass0 (pa_cons (pv 2) pa_nil))))) (pss_one (ps_set (i := 1) sc_Ltermtext.nd rfl (Or.inl rfl) (pe_op op_addS (pe_op op_addS (pv 1) (pe_S [32] (by decide +kernel))) (pe_callTy call_strU rfl T.z_str boot_str (pa_cons (pv 2) pa_nil))))))))
      (pss_one (ps_ret (pe_op op_addS (pv 1) (pe_S [41] (by decide +kernel))))))))), ?_⟩
  obtain ⟨a, t, rfl, hta, ht, hd, hn, q⟩ := h
  have hs : (2000000 : Nat) < sizeLine := by decide
  by_cases hm : made t
  · obtain ⟨as, ha, htm⟩ := tm_to hm hta
    obtain ⟨n1, n2⟩ := kd_ne hm
    have hal := htm.len
    obtain ⟨l1, l2⟩ := sg_len hm ht
    have hsl := subs_len t
    have hxl := txT_10 ht hd (by omega)
    have ehd : hdV t = .str (S (kdT t)) :: sgV t := rfl
    have at0 : atI (hdV t ++ rfs as) 0 = some (.str (S (kdT t))) := atI_nat (j := 0) rfl
    refine ⟨_, rfl, a, _, _, _, rfl, rfl, SqT.of ha, at0, _, _, rfl, rfl, _, rfl, iteN (decide_eq_false n1) ?_⟩
    refine ⟨_, rfl, a, _, _, _, rfl, rfl, SqT.of ha, at0, _, _, rfl, rfl, _, rfl, iteN (decide_eq_false n2) ?_⟩
    refine ⟨_, rfl, a, _, _, _, rfl, rfl, SqT.of ha, at0, _, _, rfl, rfl, ?_, ?_⟩
    · have := kd_kinds hm
      simp only [kinds, List.mem_cons, List.not_mem_nil, or_false] at this
      rcases this with e | e | e | e <;> rw [e] <;> decide
    have hxs : (hdV t ++ rfs as).length = 1 + (sgV t).length + (subs t).length := by rw [List.length_append, rfs_len, hal, ehd, List.length_cons]; omega
    have e1 : HT.sIx (hdV t ++ rfs as).length 0 (some 1) = 1 := by
      have := HT.sIx_nat (hdV t ++ rfs as).length 0 1
      rw [show (some ((1 : Nat) : Int)) = some 1 from rfl] at this
      rw [this]; omega
    refine ⟨_, rfl, 1, rfl, a, _, rfl, SqT.of ha, fun z => by rw [e1] at z; exact absurd z.1 (by decide), fun p1 np1 => ?_⟩
    have ecut : cutV (hdV t ++ rfs as) (some 1) none = sgV t ++ rfs as := cut_from (.str (S (kdT t)) :: (sgV t ++ rfs as)) 1
    rw [ecut]
    have s1 := Same.upd (o := HO.tup (sgV t ++ rfs as)) np1
    have hp1 : upd H p1 (HO.tup (sgV t ++ rfs as)) p1 = some (HO.tup (sgV t ++ rfs as)) := upd_same
    generalize upd H p1 (HO.tup (sgV t ++ rfs as)) = H1 at s1 hp1 ⊢
    have htm1 := htm.ts (TSame.of s1)
    refine ⟨p1, rfl, ⟨_, SqT.of hp1⟩, ?_⟩
    have hpt := pcs_T hm
    have hpl : (pcs (sgl t ++ (subs t).map txT)).length <= 614400 := by
      have := congrArg List.length hpt
      simp only [List.length_append, List.length_cons, List.length_nil] at this
      omega
    have hkl : (kdT t).length <= 5 := by
      have := kd_kinds hm
      simp only [kinds, List.mem_cons, List.not_mem_nil, or_false] at this
      rcases this with e | e | e | e <;> rw [e] <;> decide
    have hpn : (sgl t ++ (subs t).map txT).length = (sgV t ++ rfs as).length := by rw [List.length_append, List.length_append, List.length_map, rfs_len, hal, l1]
    refine for_tup (K := K) (a := p1) (xs := sgV t ++ rfs as) (fun i σ H' => ∃ v : Option V, σ = [some (.ref a), some (.str (S ([40] ++ kdT t ++ pcs ((sgl t ++ (subs t).map txT).take i)))), v] /\ Same H1 H')
      ⟨none, by rw [List.take_zero]; show _ = [some (V.ref a), some (V.str (S ([40] ++ kdT t ++ []))), none]; rw [List.append_nil]; rfl, Same.refl _⟩ (fun i σ H' _ ⟨_, _, h⟩ => SqT.of (h _ _ hp1)) ?_ ?_
    · rintro i x σ H2 hx ⟨v, rfl, s2⟩
      have hle := pcs_le (sgl t ++ (subs t).map txT) i
      have fin : ∀ {l : List Nat}, (sgl t ++ (subs t).map txT)[i]? = some l -> [40] ++ kdT t ++ pcs ((sgl t ++ (subs t).map txT).take (i + 1)) = [40] ++ kdT t ++ pcs ((sgl t ++ (subs t).map txT).take i) ++ [32] ++ l := fun hl => by
        rw [<- take_snoc hl, pcs_snoc]; simp
      rcases piece_get hm ht (htm1.ts (TSame.of s2)) hx with ⟨l, hl, hxl⟩ | ⟨a', u, hl, rfl, hut, hum⟩
      · have fin2 := fin hl
        have hll : l.length <= 614400 := by
          have := pcs_le (sgl t ++ (subs t).map txT) (i + 1)
          have e := congrArg List.length fin2
          simp only [List.length_append, List.length_cons, List.length_nil] at e
          omega
        rcases hxl with ⟨m, rfl, hm60, hdg⟩ | rfl
        · refine ⟨_, rfl, _, rfl, .inr (.inr ⟨_, rfl, _, rfl, iteN rfl ?_⟩)⟩
          refine ⟨_, rfl, _, _, rfl, rfl, by simp only [List.length_append, List.length_cons, List.length_nil]; omega, _, rfl, .inl ⟨m, rfl, hm60, _, _, rfl, rfl, by rw [hdg]; simp only [List.length_append, List.length_cons, List.length_nil]; omega, ?_⟩⟩
          exact ⟨_, by rw [hdg, <- fin2]; rfl, s2⟩
        · refine ⟨_, rfl, _, rfl, .inr (.inl ⟨_, rfl, _, rfl, iteN rfl ?_⟩)⟩
          refine ⟨_, rfl, _, _, rfl, rfl, by simp only [List.length_append, List.length_cons, List.length_nil]; omega, _, rfl, .inr ⟨l, rfl, _, _, rfl, rfl, by simp only [List.length_append, List.length_cons, List.length_nil]; omega, ?_⟩⟩
          exact ⟨_, by rw [<- fin2]; rfl, s2⟩
      · have fin2 := fin hl
        have hll := txT_10 (subs_F ht hum) (subs_dep hd hum) (by omega)
        obtain ⟨us, hus⟩ : ∃ us, H2 a' = some (.tup us) := tm_tup hut
        refine ⟨_, rfl, _, rfl, .inl ⟨a', us, rfl, hus, _, rfl, iteY rfl ?_⟩⟩
        refine ⟨_, rfl, _, _, rfl, rfl, by simp only [List.length_append, List.length_cons, List.length_nil]; omega, _, rfl, a', u, rfl, hut, subs_F ht hum, subs_dep hd hum, by omega, fun H3 s3 => ?_⟩
        refine ⟨_, _, rfl, rfl, by simp only [List.length_append, List.length_cons, List.length_nil]; omega, ?_⟩
        exact ⟨_, by rw [<- fin2]; rfl, s2.trans s3⟩
    · rintro σ H2 ⟨v, rfl, s2⟩
      rw [<- hpn, List.take_length]
      refine ⟨_, rfl, _, _, rfl, rfl, by simp only [List.length_append, List.length_cons, List.length_nil]; omega, ?_⟩
      rw [hpt]
      exact q _ (s1.trans s2)
  · cases t with
    | walk w =>
      have hw := ht.2
      refine ⟨_, rfl, a, _, _, _, rfl, rfl, SqT.of hta, atI_nat (j := 0) rfl, _, _, rfl, rfl, _, rfl, iteY (decide_eq_true rfl) ?_⟩
      refine ⟨_, rfl, a, _, _, _, rfl, rfl, SqT.of hta, atI_nat (j := 1) rfl, _, _, rfl, rfl, by simp only [List.length_cons, List.length_nil]; omega, _, _, rfl, rfl, by simp only [List.length_append, List.length_cons, List.length_nil]; omega, ?_⟩
      exact q _ (Same.refl _)
    | name s =>
      refine ⟨_, rfl, a, _, _, _, rfl, rfl, SqT.of hta, atI_nat (j := 0) rfl, _, _, rfl, rfl, _, rfl, iteN (decide_eq_false (by decide)) ?_⟩
      refine ⟨_, rfl, a, _, _, _, rfl, rfl, SqT.of hta, atI_nat (j := 0) rfl, _, _, rfl, rfl, _, rfl, iteY (decide_eq_true rfl) ?_⟩
      exact ⟨_, rfl, a, _, _, _, rfl, rfl, SqT.of hta, atI_nat (j := 1) rfl, q _ (Same.refl _)⟩
    | back t => exact absurd trivial hm
    | again k t => exact absurd trivial hm
    | thn a b => exact absurd trivial hm
    | fr c a b => exact absurd trivial hm
theorem ok_Ltermtext (T : Txt P w K mg f0 f1 f2 f3 f4 f5 f6 f7 f8 f9 f10 f11 f12 f13 f14 f15 f17 f18 f19 f20 f21 f22 f23 f24 f25 f26 k_COUNTS k_SIGNS d0 d1 d2 d3 d4 d5 d6 d7 d8 d9 d10 d11 d12 d13 d14 d15 d17 d18 d19 d20 d21 d22 d23 d24 d25 d26) : ∀ n, FnOk P w K mg base CX0 (1 + n) f21 d21 ["_law_term_here"] (sp_Ltermtext K n)
  | 0 => fn_never fun vs H Q E h => nev_Ltermtext h
  | n + 1 => step_Ltermtext T n (ok_Ltermtext T n)
theorem ok_Ltext (T : Txt P w K mg f0 f1 f2 f3 f4 f5 f6 f7 f8 f9 f10 f11 f12 f13 f14 f15 f17 f18 f19 f20 f21 f22 f23 f24 f25 f26 k_COUNTS k_SIGNS d0 d1 d2 d3 d4 d5 d6 d7 d8 d9 d10 d11 d12 d13 d14 d15 d17 d18 d19 d20 d21 d22 d23 d24 d25 d26) : FnOk P w K mg base CX0 10 f22 d22 ["_law_program"] (sp_Ltext K) := by
  have G_Ltermtext := ok_Ltermtext (P := P) (w := w) (base := base) T
  refine T.F22.fn.ok sc_Ltext (fun vs H Q E h => len_Ltext h) (fun cdv A outer s H vs Q E hr h => ?_)
  refine ⟨_, (pss_one (ps_ret (pe_bmK K rfl PySem.F.plainAttrs_str PySem.F.slot_str_join PySem.F.type_str_join (mt_joinC K 10 rfl) (pe_S [10] (by decide +kernel)) (pa_cons (pe_compB ["_law_name", "_law_term_here"] [none, none] (pi_seqU K rfl (pv 0)) trivial (fun _ _ _ _ => (pg_tupK (n := 2) K rfl rfl (pgs_cons (pg_name (i := 0) (by decide +kernel : List.Nodup (["_law_name", "_law_term_here"] : List Str)) rfl (Or.inl rfl)) (pgs_cons (pg_name (i := 1) (by decide +kernel : List.Nodup (["_law_name", "_law_term_here"] : List Str)) rfl (Or.inl rfl)) pgs_nil)))) (fun _ _ _ _ => pf_nil) (fun _ _ _ _ => (pe_op op_addS (pe_op op_addS (pv 0) (pe_S [32, 61, 32] (by decide +kernel))) (pe_call (G_Ltermtext 8) (hr.mono (by decide)) rfl T.F21.mg T.F21.fn.kp T.F21.bd .nil pass0 (pa_cons (pv 1) pa_nil))))) pa_nil)))), ?_⟩
  obtain ⟨p, ks, rfl, hp, hk, hne, hfw, q⟩ := h
  have hs : (2000000 : Nat) < sizeLine := by decide
  have hb : ((((rwT ks).map rowT).map List.length).sum + ((rwT ks).map rowT).length <= 16777216) := by
    have := sum_b (b := 76800) (ps := (rwT ks).map rowT) fun l hl => by
      obtain ⟨r, hr, rfl⟩ := List.mem_map.mp hl
      obtain ⟨k, hk', rfl⟩ := List.mem_map.mp hr
      exact rowT_len (hk k hk').nf (hk k hk').tf (hk k hk').dp
    have e : ((rwT ks).map rowT).length = ks.length := by unfold rwT; rw [List.length_map, List.length_map]
    rw [e] at this ⊢
    omega
  rcases hp with hp | hp
  · refine ⟨rfl, _, rfl, p, _, rfl, .inr ⟨SqT.of hp, ?_⟩⟩
    refine comp_tup (K := K) (a := p) (xs := rwv ks) (fun i acc H' => Same H H' /\ acc = txs ((rwT (ks.take i)).map rowT)) (by rw [rwv_len]; omega) (fun i acc H' h => SqT.of (h.1 _ _ hp)) ⟨Same.refl _, rfl⟩ ?_ ?_
    · rintro i x acc H1 Nx hi hx hal ⟨s1, rfl⟩ nx
      obtain ⟨k, hkk, rfl⟩ := rwv_get hx
      have hkr := (hk k (List.mem_of_getElem? hkk)).ts (TSame.of s1)
      have hsz := hkr.nf.sz
      have hl := txT_10 hkr.tf hkr.dp (by decide)
      refine ⟨k.r, _, rfl, SqT.of hkr.tp, rfl, _, _, rfl, _, _, rfl, rfl, ⟨trivial, yes_ite ?_⟩⟩
      refine ⟨_, rfl, _, _, rfl, rfl, by simp only [List.length_cons, List.length_nil]; omega, ?_⟩
      refine ⟨_, rfl, k.a, k.t, rfl, hkr.tm, hkr.tf, by have := hkr.dp; omega, by decide, fun H2 s2 => ?_⟩
      refine ⟨_, _, rfl, rfl, by simp only [List.length_append, List.length_cons, List.length_nil]; omega, nx _ _ (by simpa using hal) ⟨s1.trans s2, ?_⟩⟩
      rw [txs_snoc, <- take_snoc hkk, rwT_app, List.map_append]
      rfl
    rintro acc H1 D hal ⟨s1, rfl⟩ nD
    rw [rwv_len, List.take_length]
    exact ⟨D, (rwT ks).map rowT, rfl, rfl, SqL.of upd_same, hb, q _ (s1.trans (Same.upd nD))⟩
  · refine ⟨rfl, _, rfl, p, _, rfl, .inl ⟨SqL.of hp, ?_⟩⟩
    refine comp_list (K := K) (a := p) (xs := rwv ks) (fun i acc H' => Same H H' /\ acc = txs ((rwT (ks.take i)).map rowT)) (by rw [rwv_len]; omega) (fun i acc H' h => SqL.of (h.1 _ _ hp)) ⟨Same.refl _, rfl⟩ ?_ ?_
    · rintro i x acc H1 Nx hi hx hal ⟨s1, rfl⟩ nx
      obtain ⟨k, hkk, rfl⟩ := rwv_get hx
      have hkr := (hk k (List.mem_of_getElem? hkk)).ts (TSame.of s1)
      have hsz := hkr.nf.sz
      have hl := txT_10 hkr.tf hkr.dp (by decide)
      refine ⟨k.r, _, rfl, SqT.of hkr.tp, rfl, _, _, rfl, _, _, rfl, rfl, ⟨trivial, yes_ite ?_⟩⟩
      refine ⟨_, rfl, _, _, rfl, rfl, by simp only [List.length_cons, List.length_nil]; omega, ?_⟩
      refine ⟨_, rfl, k.a, k.t, rfl, hkr.tm, hkr.tf, by have := hkr.dp; omega, by decide, fun H2 s2 => ?_⟩
      refine ⟨_, _, rfl, rfl, by simp only [List.length_append, List.length_cons, List.length_nil]; omega, nx _ _ (by simpa using hal) ⟨s1.trans s2, ?_⟩⟩
      rw [txs_snoc, <- take_snoc hkk, rwT_app, List.map_append]
      rfl
    rintro acc H1 D hal ⟨s1, rfl⟩ nD
    rw [rwv_len, List.take_length]
    exact ⟨D, (rwT ks).map rowT, rfl, rfl, SqL.of upd_same, hb, q _ (s1.trans (Same.upd nD))⟩
theorem ok_show_program (T : Txt P w K mg f0 f1 f2 f3 f4 f5 f6 f7 f8 f9 f10 f11 f12 f13 f14 f15 f17 f18 f19 f20 f21 f22 f23 f24 f25 f26 k_COUNTS k_SIGNS d0 d1 d2 d3 d4 d5 d6 d7 d8 d9 d10 d11 d12 d13 d14 d15 d17 d18 d19 d20 d21 d22 d23 d24 d25 d26) : FnOk P w K mg base CX0 10 f3 d3 ["program"] (sp_show_program K) := by
  have G_term_text := ok_term_text (P := P) (w := w) (base := base) T
  refine T.F3.fn.ok sc_show_program (fun vs H Q E h => len_show_program h) (fun cdv A outer s H vs Q E hr h => ?_)
  refine ⟨_, (pss_one (ps_ret (pe_bmK K rfl PySem.F.plainAttrs_str PySem.F.slot_str_join PySem.F.type_str_join (mt_joinC K 10 rfl) (pe_S [10] (by decide +kernel)) (pa_cons (pe_compB ["row"] [none] (pi_tupK K rfl (pv 0)) trivial (fun _ _ _ _ => (pg_name (i := 0) (by decide +kernel : List.Nodup (["row"] : List Str)) rfl (Or.inl rfl))) (fun _ _ _ _ => pf_nil) (fun _ _ _ _ => (pe_op op_addS (pe_op op_addS (pe_ix (ix_tupK K rfl) (pv 0) pe_int (fun _ _ => rfl)) (pe_gS [32, 61, 32] rfl T.g_IS)) (pe_call (G_term_text 8) (hr.mono (by decide)) rfl T.F2.mg T.F2.fn.kp T.F2.bd .nil pass0 (pa_cons (pe_ix (ix_tupK K rfl) (pv 0) pe_int (fun _ _ => rfl)) pa_nil))))) pa_nil)))), ?_⟩
  obtain ⟨p, ks, rfl, hp, q⟩ := h
  have hs : (900001 : Nat) < sizeLine := by decide
  have hfw := hp.fw
  refine ⟨rfl, _, rfl, p, rfl, ⟨_, SqT.of hp.tp⟩, ?_⟩
  refine comp_tup (K := K) (a := p) (xs := rwv ks) (fun i acc H' => Same H H' /\ acc = txs ((rwT (ks.take i)).map rowT)) (by rw [rwv_len]; omega) (fun i acc H' h => SqT.of (h.1 _ _ hp.tp)) ⟨Same.refl _, rfl⟩ ?_ ?_
  · rintro i x acc H1 Nx hi hx hal ⟨s1, rfl⟩ nx
    obtain ⟨k, hk, rfl⟩ := rwv_get hx
    have hkr := (hp.rw k (List.mem_of_getElem? hk)).ts (TSame.of s1)
    have hsz := hkr.nf.sz
    have hl := txT_10 hkr.tf hkr.dp (by decide)
    refine ⟨trivial, yes_ite ?_⟩
    refine ⟨_, rfl, k.r, _, _, _, rfl, rfl, SqT.of hkr.tp, atI_nat (j := 0) rfl, _, _, rfl, rfl, by simp only [List.length_cons, List.length_nil]; omega, ?_⟩
    refine ⟨_, rfl, k.r, _, _, _, rfl, rfl, SqT.of hkr.tp, atI_nat (j := 1) rfl, k.a, k.t, rfl, hkr.tm, hkr.tf, by have := hkr.dp; omega, by decide, fun H2 s2 => ?_⟩
    refine ⟨_, _, rfl, rfl, by simp only [List.length_append, List.length_cons, List.length_nil]; omega, nx _ _ (by simpa using hal) ⟨s1.trans s2, ?_⟩⟩
    rw [txs_snoc, <- take_snoc hk, rwT_app, List.map_append]
    rfl
  rintro acc H1 D hal ⟨s1, rfl⟩ nD
  rw [rwv_len, List.take_length]
  refine ⟨D, (rwT ks).map rowT, rfl, rfl, SqL.of upd_same, ?_, ?_⟩
  · have := sum_b (b := 76800) (ps := (rwT ks).map rowT) fun l hl => by
      obtain ⟨r, hr, rfl⟩ := List.mem_map.mp hl
      obtain ⟨k, hk, rfl⟩ := List.mem_map.mp hr
      exact rowT_len (hp.rw k hk).nf (hp.rw k hk).tf (hp.rw k hk).dp
    have e : ((rwT ks).map rowT).length = ks.length := by unfold rwT; rw [List.length_map, List.length_map]
    rw [e] at this ⊢
    omega
  exact q _ (s1.trans (Same.upd nD))
theorem step_Lalike (T : Txt P w K mg f0 f1 f2 f3 f4 f5 f6 f7 f8 f9 f10 f11 f12 f13 f14 f15 f17 f18 f19 f20 f21 f22 f23 f24 f25 f26 k_COUNTS k_SIGNS d0 d1 d2 d3 d4 d5 d6 d7 d8 d9 d10 d11 d12 d13 d14 d15 d17 d18 d19 d20 d21 d22 d23 d24 d25 d26) (n : Nat) (ih : FnOk P w K mg base CX0 (1 + n) f24 d24 ["_law_found", "_law_due"] (sp_Lalike K n)) : FnOk P w K mg base CX0 (1 + n + 1) f24 d24 ["_law_found", "_law_due"] (sp_Lalike K (n + 1)) := by
  refine T.F24.fn.ok sc_Lalike (fun vs H Q E h => len_Lalike h) (fun cdv A outer s H vs Q E hr h => ?_)
  refine ⟨_, (pss_cons (ps_if (pt_val (pe_callB (call_isTupG K rfl) rfl T.z_isinstance boot_isinstance (pa_cons (pv 1) (pa_cons (pe_bltn (v := .ty "tuple") rfl T.z_tuple boot_tuple rfl) pa_nil)))) (pss_cons (ps_if (PW.pt (pw_or (pt_not (pt_val (pe_callB (call_isTupG K rfl) rfl T.z_isinstance boot_isinstance (pa_cons (pv 0) (pa_cons (pe_bltn (v := .ty "tuple") rfl T.z_tuple boot_tuple rfl) pa_nil))))) (pw_or1 (pt_cmpR op_neI (pe_callB (call_len_seqK K rfl) rfl T.z_len PySem.boot_len (pa_cons (pv 0) pa_nil)) (pe_callB (call_len_seqK K rfl) rfl T.z_len PySem.boot_len (pa_cons (pv 1) pa_nil)) (nomark _))))) (pss_one (ps_ret pe_bl)) pss_nil)
      (pss_one (ps_ret (pe_callB (call_allK K rfl rfl) rfl T.z_all boot_all (pa_cons (pe_compB ["_law_one", "_law_other_here"] [none, none] (pi_zipTT K rfl rfl T.z_zip (pa_cons (pv 0) (pa_cons (pv 1) pa_nil))) trivial (fun _ _ _ _ => (pg_tupK (n := 2) K rfl rfl (pgs_cons (pg_name (i := 0) (by decide +kernel : List.Nodup (["_law_one", "_law_other_here"] : List Str)) rfl (Or.inl rfl)) (pgs_cons (pg_name (i := 1) (by decide +kernel : List.Nodup (["_law_one", "_law_other_here"] : List Str)) rfl (Or.inl rfl)) pgs_nil)))) (fun _ _ _ _ => pf_nil) (fun _ _ _ _ => (pe_call ih hr rfl T.F24.mg T.F24.fn.kp T.F24.bd .nil pass0 (pa_cons (pv 0) (pa_cons (pv 1) pa_nil))))) pa_nil))))) pss_nil)
      (pss_one (ps_ret (pe_and (pe_cmpR op_eqB (pe_callB call_isBU rfl T.z_isinstance boot_isinstance (pa_cons (pv 0) (pa_cons (pe_bltn (v := .ty "bool") rfl T.z_bool boot_bool rfl) pa_nil))) (pe_callB call_isBU rfl T.z_isinstance boot_isinstance (pa_cons (pv 1) (pa_cons (pe_bltn (v := .ty "bool") rfl T.z_bool boot_bool rfl) pa_nil))) (nomark _)) (pe_one (pe_cmpR (op_eqD K rfl hr) (pv 0) (pv 1) (nomark _))))))), ?_⟩
  obtain ⟨x, y, m, rfl, hd, hm, hn, q⟩ := h
  have hs : (900001 : Nat) < sizeLine := by decide
  cases hd with
  | int i =>
    refine ⟨_, rfl, _, rfl, .inr (.inr ⟨i, rfl, _, rfl, iteN rfl ?_⟩)⟩
    refine ⟨_, rfl, _, rfl, .inl ⟨i, rfl⟩, _, rfl, _, rfl, .inl ⟨i, rfl⟩, _, _, rfl, rfl, _, rfl, iteY (decide_eq_true rfl) ?_⟩
    refine ⟨_, rfl, _, rfl, .int i, .int i, .int i, .int i, ⟨rfl, rfl⟩, by show 0 <= 60; decide, ?_⟩
    rw [eqv_refl (.int i) rfl]
    exact q _ (Same.refl _)
  | @str _ l hl =>
    refine ⟨_, rfl, _, rfl, .inr (.inl ⟨_, rfl, _, rfl, iteN rfl ?_⟩)⟩
    refine ⟨_, rfl, _, rfl, .inr ⟨_, rfl⟩, _, rfl, _, rfl, .inr ⟨_, rfl⟩, _, _, rfl, rfl, _, rfl, iteY (decide_eq_true rfl) ?_⟩
    have ly : PyData.canLay0 (.str (S l)) = true := by
      have := lay_txs (ws := [l]) (by simpa using hl)
      simpa [tds, PyData.canLayAll0] using this
    refine ⟨_, rfl, _, rfl, .str (S l), .str (S l), .str _, .str _, ⟨ly, ly⟩, by show 0 <= 60; decide, ?_⟩
    rw [eqv_refl (.str (S l)) rfl]
    exact q _ (Same.refl _)
  | @tup m' a b xs ys h1 h2 h3 h4 h5 =>
    refine ⟨_, rfl, _, rfl, .inl ⟨b, ys, rfl, h2, _, rfl, iteY rfl ?_⟩⟩
    refine ⟨_, rfl, _, rfl, .inl ⟨a, xs, rfl, h1, _, rfl, iteN rfl ?_⟩⟩
    refine ⟨_, rfl, a, _, rfl, .inr (SqT.of h1), _, rfl, b, _, rfl, .inr (SqT.of h2), _, _, rfl, rfl, _, rfl, iteN (by rw [decide_eq_true (by omega)]; rfl) ?_⟩
    refine ⟨_, rfl, _, rfl, a, b, rfl, ⟨_, SqT.of h1⟩, ⟨_, SqT.of h2⟩, ?_⟩
    refine comp_zip (xs := xs) (ys := ys) (fun i acc H' => Same H H' /\ acc = (List.replicate i true).map V.bl) h3 (by omega) (fun i acc H' h => ⟨SqT.of (h.1 _ _ h1), SqT.of (h.1 _ _ h2)⟩) ⟨Same.refl _, rfl⟩ ?_ ?_
    · rintro i x y acc H1 T0 Nx hx hy hz ⟨s1, rfl⟩ nT nx
      have sT := Same.upd (o := HO.tup [x, y]) nT
      refine ⟨T0, _, rfl, SqT.of upd_same, rfl, _, _, rfl, _, _, rfl, rfl, ⟨trivial, yes_ite ?_⟩⟩
      refine ⟨_, rfl, _, rfl, x, y, m', rfl, (h5 i x y hx hy).ts (TSame.of (s1.trans sT)), by omega, by omega, fun H2 s2 => nx _ _ (by simpa using hz) ⟨s1.trans (sT.trans s2), yes_snoc i⟩⟩
    rintro acc H1 D hz ⟨s1, rfl⟩ nD
    refine ⟨D, List.replicate xs.length true, rfl, SqL.of upd_same, ?_⟩
    rw [all_yes]
    exact q _ (s1.trans (Same.upd nD))
theorem ok_Lalike (T : Txt P w K mg f0 f1 f2 f3 f4 f5 f6 f7 f8 f9 f10 f11 f12 f13 f14 f15 f17 f18 f19 f20 f21 f22 f23 f24 f25 f26 k_COUNTS k_SIGNS d0 d1 d2 d3 d4 d5 d6 d7 d8 d9 d10 d11 d12 d13 d14 d15 d17 d18 d19 d20 d21 d22 d23 d24 d25 d26) : ∀ n, FnOk P w K mg base CX0 (1 + n) f24 d24 ["_law_found", "_law_due"] (sp_Lalike K n)
  | 0 => fn_never fun vs H Q E h => nev_Lalike h
  | n + 1 => step_Lalike T n (ok_Lalike T n)
theorem ok_Llongright (T : Txt P w K mg f0 f1 f2 f3 f4 f5 f6 f7 f8 f9 f10 f11 f12 f13 f14 f15 f17 f18 f19 f20 f21 f22 f23 f24 f25 f26 k_COUNTS k_SIGNS d0 d1 d2 d3 d4 d5 d6 d7 d8 d9 d10 d11 d12 d13 d14 d15 d17 d18 d19 d20 d21 d22 d23 d24 d25 d26) : FnOk P w K mg base CX0 31 f25 d25 ["_law_box_here"] (sp_Llongright K) := by
  have G_Lnames := ok_Lnames (P := P) (w := w) (base := base) T
  have G_Lpool := ok_Lpool (P := P) (w := w) (base := base) T
  have G_Ltake := ok_Ltake (P := P) (w := w) (base := base) T
  have G_Lwalk := ok_Lwalk (P := P) (w := w) (base := base) T
  have G_Ltext := ok_Ltext (P := P) (w := w) (base := base) T
  have G_read_program := ok_read_program (P := P) (w := w) (base := base) T
  have G_Lalike := ok_Lalike (P := P) (w := w) (base := base) T
  have G_show_program := ok_show_program (P := P) (w := w) (base := base) T
  refine T.F25.fn.ok sc_Llongright (fun vs H Q E h => len_Llongright h) (fun cdv A outer s H vs Q E hr h => ?_)
  refine ⟨_, (pss_cons (ps_par (i := 1) (j := 2) rfl sc_Llongright.nd rfl rfl (by decide) rfl rfl (pa_cons (pe_call G_Lnames (hr.mono (by decide)) rfl T.F17.mg T.F17.fn.kp T.F17.bd .nil pass0 (pa_cons (pv 0) (pa_cons pe_int pa_nil))) (pa_cons (pe_call G_Lpool (hr.mono (by decide)) rfl T.F18.mg T.F18.fn.kp T.F18.bd .nil pass0 (pa_cons (pv 0) pa_nil)) pa_nil)) rfl)
      (pss_cons (ps_set (i := 3) sc_Llongright.nd rfl (Or.inl rfl) (pe_lst pa_nil))
      (pss_cons (ps_if (pt_cmpR op_eqI (pe_call G_Ltake (hr.mono (by decide)) rfl T.F15.mg T.F15.fn.kp T.F15.bd .nil pass0 (pa_cons (pv 0) (pa_cons pe_int pa_nil))) pe_int (nomark _)) (pss_one (ps_for PassesOwn.never rfl (pi_range1 rfl T.z_range (pa_cons (pe_op op_add pe_int (pe_call G_Ltake (hr.mono (by decide)) rfl T.F15.mg T.F15.fn.kp T.F15.bd .nil pass0 (pa_cons (pv 0) (pa_cons pe_int pa_nil)))) pa_nil)) (pg_name (i := 4) sc_Llongright.nd rfl (Or.inl rfl)) (pss_one (ps_expr (pe_bmK K rfl PySem.F.plainAttrs_list PySem.F.slot_list_append PySem.F.type_list_append mt_append (pv 3) (pa_cons (pe_tup (pa_cons (pe_ix (ix_listK K rfl) (pv 1) (pe_call G_Ltake (hr.mono (by decide)) rfl T.F15.mg T.F15.fn.kp T.F15.bd .nil pass0 (pa_cons (pv 0) (pa_cons pe_int pa_nil))) (fun _ _ => rfl)) (pa_cons (pe_tup (pa_cons (pe_S [119, 97, 108, 107] (by decide +kernel)) (pa_cons (pe_op op_mulS (pe_ix ix_S (pv 2) (pe_call G_Ltake (hr.mono (by decide)) rfl T.F15.mg T.F15.fn.kp T.F15.bd .nil pass0 (pa_cons (pv 0) (pa_cons (pe_callB call_lenS rfl T.z_len PySem.boot_len (pa_cons (pv 2) pa_nil)) pa_nil))) (fun _ _ => rfl)) (pe_call G_Ltake (hr.mono (by decide)) rfl T.F15.mg T.F15.fn.kp T.F15.bd .nil pass0 (pa_cons (pv 0) (pa_cons pe_int pa_nil)))) pa_nil))) pa_nil))) pa_nil)))))) (pss_one (ps_expr (pe_bmK K rfl PySem.F.plainAttrs_list PySem.F.slot_list_append PySem.F.type_list_append mt_append (pv 3) (pa_cons (pe_tup (pa_cons (pe_ix (ix_listK K rfl) (pv 1) pe_int (fun _ _ => rfl)) (pa_cons (pe_tup (pa_cons (pe_S [98, 97, 99, 107] (by decide +kernel)) (pa_cons (pe_tup (pa_cons (pe_S [119, 97, 108, 107] (by decide +kernel)) (pa_cons (pe_op op_mulS (pe_call G_Lwalk (hr.mono (by decide)) rfl T.F19.mg T.F19.fn.kp T.F19.bd .nil pass0 (pa_cons (pv 0) (pa_cons (pv 2) pa_nil))) (pe_op op_add pe_int (pe_call G_Ltake (hr.mono (by decide)) rfl T.F15.mg T.F15.fn.kp T.F15.bd .nil pass0 (pa_cons (pv 0) (pa_cons pe_int pa_nil))))) pa_nil))) pa_nil))) pa_nil))) pa_nil)))))
      (pss_cons (ps_set (i := 5) sc_Llongright.nd rfl (Or.inl rfl) (pe_call G_Ltext (hr.mono (by decide)) rfl T.F22.mg T.F22.fn.kp T.F22.bd .nil pass0 (pa_cons (pv 3) pa_nil)))
      (pss_cons (ps_set (i := 6) sc_Llongright.nd rfl (Or.inl rfl) (pe_call G_read_program (hr.mono (by decide)) rfl T.F13.mg T.F13.fn.kp T.F13.bd .nil pass0 (pa_cons (pv 5) pa_nil)))
      (pss_one (ps_ret (pe_and (pe_call (G_Lalike 10) (hr.mono (by decide)) rfl T.F24.mg T.F24.fn.kp T.F24.bd .nil pass0 (pa_cons (pv 6) (pa_cons (pe_callTy (call_tuple_ofK K rfl) rfl T.z_tuple boot_tuple (pa_cons (pv 3) pa_nil)) pa_nil))) (pe_and (pe_cmpR op_eqS (pe_call G_show_program (hr.mono (by decide)) rfl T.F3.mg T.F3.fn.kp T.F3.bd .nil pass0 (pa_cons (pv 6) pa_nil)) (pv 5) (nomark _)) (pe_one (pe_call (G_Lalike 10) (hr.mono (by decide)) rfl T.F24.mg T.F24.fn.kp T.F24.bd .nil pass0 (pa_cons (pe_call G_read_program (hr.mono (by decide)) rfl T.F13.mg T.F13.fn.kp T.F13.bd .nil pass0 (pa_cons (pv 5) pa_nil)) (pa_cons (pv 6) pa_nil))))))))))))), ?_⟩
  obtain ⟨b, rfl, hb, q⟩ := h
  have hs : (900001 : Nat) < sizeLine := by decide
  refine ⟨_, rfl, b, 8, rfl, hb, by decide, fun qn nsn H1 nq qb hq hln hnf bx1 s1 => ?_⟩
  refine ⟨_, rfl, b, rfl, bx1, fun l H2 hl0 hl6 hlt hls bx2 s2 => ?_⟩
  refine ⟨_, _, rfl, ?_⟩
  have hq2 := s2 _ _ hq qb
  refine ⟨Nat.zero_le _, fun p3 n3 => ?_⟩
  have sp := Same.upd (o := HO.lst []) n3
  have hp3 : upd H2 p3 (HO.lst []) p3 = some (HO.lst (rwv [])) := upd_same
  have b3 : p3 ≠ b := bx2.ne n3
  have n30 : H p3 = none := (s1.trans s2).none n3 b3
  have hq3 := sp _ _ hq2
  have bx3 := bx2.same sp
  have s03 := (s1.trans s2).after sp
  have q3 : qn ≠ p3 := ne_of_none hq2 n3
  have hpos : 0 < l.length := List.length_pos_iff.mpr hl0
  generalize upd H2 p3 (HO.lst []) = H3 at sp hp3 hq3 bx3 s03 ⊢
  refine ⟨_, rfl, b, 2, rfl, bx3, by decide, by decide, fun r H4 hr4 bx4 s4 => ?_⟩
  have hp4 := s4 _ _ hp3 b3
  have hq4 := s4 _ _ hq3 qb
  have s04 := s03.trans s4
  apply cutK (P := fun _ H' => ∃ ks : List Rw, H' p3 = some (.lst (rwv ks)) /\ (∀ k ∈ ks, RwF H' k) /\ ks ≠ [] /\ ks.length <= 36 /\ (∀ k ∈ ks, (rowT (k.nm, k.t)).length <= 600) /\ BoxAt H' b /\ SameB b H H')
  · intro key
    refine ⟨_, _, rfl, rfl, _, rfl, ite2 (fun z => ?_) (fun z => ?_)⟩
    · refine ⟨_, rfl, b, 35, rfl, bx4, by decide, by decide, fun r5 H5 hr5 bx5 s5 => ?_⟩
      refine ⟨_, _, rfl, rfl, _, rfl, by omega, by omega, ?_⟩
      refine for_range (fun i σ H' => ∃ (kv : Option V) (ks : List Rw), σ = [some (.ref b), some (.ref qn), some (.str (S l)), some (.ref p3), kv, none, none] /\ H' p3 = some (.lst (rwv ks)) /\ H' qn = some (.lst (txs nsn)) /\ (∀ k ∈ ks, RwF H' k) /\ ks.length = i /\ (∀ k ∈ ks, (rowT (k.nm, k.t)).length <= 600) /\ BoxAt H' b /\ SameB b H H')
        ⟨none, [], rfl, s5 _ _ hp4 b3, s5 _ _ hq4 qb, fun _ h => absurd h List.not_mem_nil, rfl, fun _ h => absurd h List.not_mem_nil, bx5, s04.trans s5⟩ ?_ ?_
      · rintro i σ H6 hi ⟨kv, ks, rfl, hp6, hq6, hk6, hkl, hkz, bx6, s6⟩
        refine ⟨_, rfl, .inl ⟨rfl, _, SqL.of hp6⟩, _, rfl, _, rfl, b, 8, rfl, bx6, by decide, by decide, fun r7 H7 hr7 bx7 s7 => ?_⟩
        have hr8 : r7 < nsn.length := by omega
        have hnm := hnf _ (List.getElem_mem hr8)
        have hng := List.getElem?_eq_getElem hr8
        generalize nsn[r7] = nm at hnm hng
        refine ⟨qn, _, _, _, rfl, rfl, SqL.of (s7 _ _ hq6 qb), atI_nat (show (txs nsn)[r7]? = some (.str (S nm)) by unfold txs; rw [List.getElem?_map, hng]; rfl), ?_⟩
        refine ⟨_, rfl, _, rfl, _, rfl, l, rfl, by omega, b, _, rfl, bx7, by omega, by omega, fun r8 H8 hr8' bx8 s8 => ?_⟩
        have hr9 : r8 < l.length := by omega
        have hc := hlt _ (List.getElem_mem hr9)
        have hcg := List.getElem?_eq_getElem hr9
        generalize l[r8] = c at hc hcg
        refine ⟨l, _, c, rfl, rfl, by omega, atI_nat hcg, ?_⟩
        refine ⟨_, rfl, b, 2, rfl, bx8, by decide, by decide, fun r9 H9 hr9' bx9 s9 => ?_⟩
        have e9 : ((r9 : Int)).toNat = r9 := by omega
        refine ⟨[c], (r9 : Int), rfl, rfl, ⟨by omega, by omega⟩, by rw [e9]; show 1 * r9 <= _; omega, ?_⟩
        rw [e9]
        obtain ⟨hwl, hwm⟩ : (reps r9 [c]).length <= 1 /\ ∀ d ∈ reps r9 [c], Lt d := by
          have h2 : r9 = 0 \/ r9 = 1 := by omega
          rcases h2 with rfl | rfl
          · exact ⟨Nat.zero_le _, fun d hd => absurd hd List.not_mem_nil⟩
          · exact ⟨Nat.le_refl _, fun d hd => by rw [List.mem_singleton.mp (show d ∈ [c] from hd)]; exact hc⟩
        generalize reps r9 [c] = w at hwl hwm ⊢
        refine ⟨by show 2 <= sizeLine; decide, fun ta nta => ?_⟩
        have sa := Same.upd (o := HO.tup [V.str (S [119, 97, 108, 107]), V.str (S w)]) nta
        have hta : upd H9 ta (HO.tup [V.str (S [119, 97, 108, 107]), V.str (S w)]) ta = some (HO.tup [V.str (S [119, 97, 108, 107]), V.str (S w)]) := upd_same
        refine ⟨by show 2 <= sizeLine; decide, fun tr ntr => ?_⟩
        generalize upd H9 ta (HO.tup [V.str (S [119, 97, 108, 107]), V.str (S w)]) = HA at sa hta ntr ⊢
        have sr := Same.upd (o := HO.tup [V.str (S nm), V.ref ta]) ntr
        have htr : upd HA tr (HO.tup [V.str (S nm), V.ref ta]) tr = some (HO.tup [V.str (S nm), V.ref ta]) := upd_same
        have htaB := sr _ _ hta
        generalize upd HA tr (HO.tup [V.str (S nm), V.ref ta]) = HB at sr htr htaB ⊢
        have s6B : SameB b H6 HB := ((s7.trans s8).trans s9).after (sa.trans sr)
        have hpB := s6B _ _ hp6 b3
        have hqB := s6B _ _ hq6 qb
        have bxB : BoxAt HB b := bx9.same (sa.trans sr)
        refine ⟨p3, _, _, rfl, rfl, hpB, by rw [rwv_len]; omega, ?_⟩
        rw [rwv_snoc ks ⟨tr, ta, nm, .walk w⟩]
        have tU := TSame.updL (o := HO.lst (rwv (ks ++ [⟨tr, ta, nm, .walk w⟩]))) hpB
        have ts6 : TSame H6 HB := s6B.tsB bx6
        refine ⟨_, ks ++ [⟨tr, ta, nm, .walk w⟩], rfl, upd_same, by rw [upd_ne q3]; exact hqB, fun k hk => ?_, by rw [List.length_append, hkl]; rfl, fun k hk => ?_, bxB.updN b3, (s6.trans s6B).updN n30⟩
        · rcases List.mem_append.mp hk with g | g
          · exact (hk6 k g).ts (ts6.trans tU)
          · rw [List.mem_singleton.mp g]
            exact ⟨tU _ _ htr, tU _ _ htaB, by show 1 <= 7; decide, hnm, hwm, by omega⟩
        · rcases List.mem_append.mp hk with g | g
          · exact hkz k g
          · rw [List.mem_singleton.mp g]
            have := hnm.sz
            show (nm ++ [32, 61, 32] ++ (39 :: (w ++ [39]))).length <= 600
            simp only [List.length_append, List.length_cons, List.length_nil]
            omega
      · rintro σ H6 ⟨kv, ks, rfl, hp6, hq6, hk6, hkl, hkz, bx6, s6⟩
        exact key kv H6 ⟨ks, hp6, hk6, fun z => by rw [z] at hkl; simp at hkl; omega, by omega, hkz, bx6, s6⟩
    · have h0n : 0 < nsn.length := by omega
      have hnm := hnf _ (List.getElem_mem h0n)
      have hng := List.getElem?_eq_getElem h0n
      generalize nsn[0] = nm at hnm hng
      refine ⟨_, rfl, .inl ⟨rfl, _, SqL.of hp4⟩, _, rfl, qn, _, _, _, rfl, rfl, SqL.of hq4, atI_nat (j := 0) (show (txs nsn)[0]? = some (.str (S nm)) by unfold txs; rw [List.getElem?_map, hng]; rfl), ?_⟩
      refine ⟨_, rfl, _, rfl, b, l, rfl, bx4, hl0, hl6, hlt, fun u H5 hu12 hum bx5 s5 => ?_⟩
      refine ⟨_, rfl, b, 40, rfl, bx5, by decide, by decide, fun r6 H6 hr6 bx6 s6 => ?_⟩
      refine ⟨_, _, rfl, rfl, ?_⟩
      have e9 : ((1 : Int) + (r6 : Int)).toNat = 1 + r6 := by omega
      have hwl : (reps (1 + r6) u).length <= 500 := by
        rw [reps_len]
        have : (1 + r6) * u.length <= 40 * 12 := Nat.mul_le_mul (by omega) hu12
        omega
      have hwm : ∀ d ∈ reps (1 + r6) u, Lt d := fun d hd => by
        unfold reps at hd
        obtain ⟨x, hx, hdx⟩ := List.mem_flatten.mp hd
        rw [(List.mem_replicate.mp hx).2] at hdx
        exact hum d hdx
      refine ⟨u, (1 : Int) + (r6 : Int), rfl, rfl, ⟨by omega, by omega⟩, ?_, ?_⟩
      · rw [e9, Nat.mul_comm, <- reps_len]; omega
      rw [e9]
      generalize reps (1 + r6) u = w at hwl hwm ⊢
      refine ⟨by show 2 <= sizeLine; decide, fun ta nta => ?_⟩
      have sa := Same.upd (o := HO.tup [V.str (S [119, 97, 108, 107]), V.str (S w)]) nta
      have hta : upd H6 ta (HO.tup [V.str (S [119, 97, 108, 107]), V.str (S w)]) ta = some (HO.tup [V.str (S [119, 97, 108, 107]), V.str (S w)]) := upd_same
      generalize upd H6 ta (HO.tup [V.str (S [119, 97, 108, 107]), V.str (S w)]) = HA at sa hta ⊢
      refine ⟨by show 2 <= sizeLine; decide, fun tb ntb => ?_⟩
      have sb := Same.upd (o := HO.tup [V.str (S [98, 97, 99, 107]), V.ref ta]) ntb
      have htb : upd HA tb (HO.tup [V.str (S [98, 97, 99, 107]), V.ref ta]) tb = some (HO.tup [V.str (S [98, 97, 99, 107]), V.ref ta]) := upd_same
      have hta2 := sb _ _ hta
      generalize upd HA tb (HO.tup [V.str (S [98, 97, 99, 107]), V.ref ta]) = HB at sb htb hta2 ⊢
      refine ⟨by show 2 <= sizeLine; decide, fun tr ntr => ?_⟩
      have sr := Same.upd (o := HO.tup [V.str (S nm), V.ref tb]) ntr
      have htr : upd HB tr (HO.tup [V.str (S nm), V.ref tb]) tr = some (HO.tup [V.str (S nm), V.ref tb]) := upd_same
      have hta3 := sr _ _ hta2
      have htb3 := sr _ _ htb
      generalize upd HB tr (HO.tup [V.str (S nm), V.ref tb]) = HC at sr htr hta3 htb3 ⊢
      have s4C : SameB b H4 HC := (s5.trans s6).after (sa.trans (sb.trans sr))
      have hpC := s4C _ _ hp4 b3
      have bxC : BoxAt HC b := bx6.same (sa.trans (sb.trans sr))
      refine ⟨p3, _, _, rfl, rfl, hpC, by rw [rwv_len]; show 0 < _; omega, ?_⟩
      rw [rwv_snoc [] ⟨tr, tb, nm, .back (.walk w)⟩]
      have tU := TSame.updL (o := HO.lst (rwv ([] ++ [(⟨tr, tb, nm, .back (.walk w)⟩ : Rw)]))) hpC
      have hfin : RwF (upd HC p3 (HO.lst (rwv ([] ++ [(⟨tr, tb, nm, .back (.walk w)⟩ : Rw)])))) ⟨tr, tb, nm, .back (.walk w)⟩ := ⟨tU _ _ htr, ⟨ta, tU _ _ htb3, tU _ _ hta3⟩, by show 2 <= 7; decide, hnm, hwm, hwl⟩
      have hpD : upd HC p3 (HO.lst (rwv ([] ++ [(⟨tr, tb, nm, .back (.walk w)⟩ : Rw)]))) p3 = some (.lst (rwv ([] ++ [(⟨tr, tb, nm, .back (.walk w)⟩ : Rw)]))) := upd_same
      have bxD := bxC.updN (o := HO.lst (rwv ([] ++ [(⟨tr, tb, nm, .back (.walk w)⟩ : Rw)]))) b3
      have s0D := (s04.trans s4C).updN (o := HO.lst (rwv ([] ++ [(⟨tr, tb, nm, .back (.walk w)⟩ : Rw)]))) n30
      generalize upd HC p3 (HO.lst (rwv ([] ++ [(⟨tr, tb, nm, .back (.walk w)⟩ : Rw)]))) = HD at hfin hpD bxD s0D ⊢
      refine key none HD ⟨[] ++ [⟨tr, tb, nm, .back (.walk w)⟩], hpD, fun k hk => ?_, by simp, by show 1 <= 36; decide, fun k hk => ?_, bxD, s0D⟩
      · rw [List.mem_singleton.mp hk]; exact hfin
      · rw [List.mem_singleton.mp hk]
        have := hnm.sz
        show (nm ++ [32, 61, 32] ++ ((40 :: kBack) ++ (32 :: (39 :: (w ++ [39]))) ++ [41])).length <= 600
        simp only [List.length_append, List.length_cons, List.length_nil, kBack]
        omega
  · rintro kv H5 ⟨ks, hp5, hk5, hne, hkl, hkz, bx5, s5⟩
    have hzt : (txP (rwT ks)).length <= 900000 := by
      have := txP_len (rs := rwT ks) (b := 600) fun r hr => by
        obtain ⟨k, hk, rfl⟩ := List.mem_map.mp hr
        exact hkz k hk
      have e : (rwT ks).length = ks.length := by unfold rwT; rw [List.length_map]
      rw [e] at this
      omega
    have hrs : RsF (rwT ks) := ⟨fun z => hne (by unfold rwT at z; exact List.map_eq_nil_iff.mp z), by unfold rwT; rw [List.length_map]; omega, fun r hr => by
      obtain ⟨k, hk, rfl⟩ := List.mem_map.mp hr
      exact ⟨(hk5 k hk).nf, (hk5 k hk).tf, (hk5 k hk).dp⟩⟩
    refine ⟨_, rfl, p3, ks, rfl, .inr hp5, hk5, hne, by omega, fun H6 s6 => ?_⟩
    refine ⟨_, rfl, rwT ks, rfl, hrs, hzt, fun p js H7 hpg hjs s7 => ?_⟩
    have s57 := s6.trans s7
    refine ⟨_, rfl, _, rfl, p3, _, rfl, .inl ⟨SqL.of (s57 _ _ hp5), fun tt ntt => ?_⟩⟩
    have s8 := Same.upd (o := HO.tup (rwv ks)) ntt
    have s58 := s57.trans s8
    refine ⟨_, _, 9, rfl, rows_al (hpg.same s8).tp upd_same (hpg.same s8).rw (fun k hk => (hk5 k hk).ts (TSame.of s58)) hjs hpg.fw, by decide, by decide, fun H9 s9 => ?_⟩
    refine ⟨_, rfl, iteY rfl ?_⟩
    have hpg9 := (hpg.same s8).same s9
    refine ⟨_, rfl, p, js, rfl, hpg9, fun HA sA => ?_⟩
    refine ⟨_, rfl, _, _, rfl, rfl, ?_⟩
    rw [hjs]
    refine ⟨_, rfl, iteY (decide_eq_true rfl) ?_⟩
    refine ⟨_, rfl, rwT ks, rfl, hrs, hzt, fun p' js' HB hpg' hjs' sB => ?_⟩
    have hpgB := (hpg9.same sA).same sB
    refine ⟨_, rfl, _, _, 9, rfl, rows_al hpg'.tp hpgB.tp hpg'.rw hpgB.rw (hjs'.trans hjs.symm) hpg'.fw, by decide, by decide, fun HC sC => ?_⟩
    exact q _ (((((s5.after s58).after s9).after sA).after sB).after sC)
theorem ok_law (T : Txt P w K mg f0 f1 f2 f3 f4 f5 f6 f7 f8 f9 f10 f11 f12 f13 f14 f15 f17 f18 f19 f20 f21 f22 f23 f24 f25 f26 k_COUNTS k_SIGNS d0 d1 d2 d3 d4 d5 d6 d7 d8 d9 d10 d11 d12 d13 d14 d15 d17 d18 d19 d20 d21 d22 d23 d24 d25 d26) : FnOk P w K mg base CX0 32 f26 d26 ["_law_script"] (sp_law K) := by
  have G_Lsmallprogram := ok_Lsmallprogram (P := P) (w := w) (base := base) T
  have G_Lbox := ok_Lbox (P := P) (w := w) (base := base) T
  have G_Ltext := ok_Ltext (P := P) (w := w) (base := base) T
  have G_show_program := ok_show_program (P := P) (w := w) (base := base) T
  have G_read_program := ok_read_program (P := P) (w := w) (base := base) T
  have G_Lalike := ok_Lalike (P := P) (w := w) (base := base) T
  have G_Llongright := ok_Llongright (P := P) (w := w) (base := base) T
  refine T.F26.fn.ok sc_law (fun vs H Q E h => len_law h) (fun cdv A outer s H vs Q E hr h => ?_)
  refine ⟨_, (pss_cons (ps_setCB (i := 1) ["_law_k", "_law_script"] [none, some 0] sc_law.nd rfl (Or.inl rfl) (pi_range1 rfl T.z_range (pa_cons (pe_callB (call_max2 rfl) rfl T.z_max boot_max (pa_cons pe_int (pa_cons (pe_callB (call_min2 rfl) rfl T.z_min boot_min (pa_cons pe_int (pa_cons (pe_callB (call_len_seqK K rfl) rfl T.z_len PySem.boot_len (pa_cons (pv 0) pa_nil)) pa_nil))) pa_nil))) pa_nil)) ⟨⟨rfl, rfl, by first | exact .inl rfl | exact .inr rfl⟩, trivial⟩ (fun _ _ _ _ => (pg_name (i := 0) (by decide +kernel : List.Nodup (["_law_k", "_law_script"] : List Str)) rfl (Or.inl rfl))) (fun _ _ _ _ => pf_nil) (fun _ _ _ _ => (pe_call G_Lsmallprogram (hr.mono (by decide)) rfl T.F23.mg T.F23.fn.kp T.F23.bd .nil pass0 (pa_cons (pe_call G_Lbox (hr.mono (by decide)) rfl T.F14.mg T.F14.fn.kp T.F14.bd .nil pass0 (pa_cons (pv 1) (pa_cons (pv 0) pa_nil))) pa_nil))))
      (pss_cons (ps_for PassesOwn.never rfl (pi_listK K rfl (pe_op op_cat (pv 1) (pe_slice (sl_listK K rfl) (pv 1) po_none (po_some pe_int)))) (pg_name (i := 2) sc_law.nd rfl (Or.inl rfl)) (pss_cons (ps_set (i := 3) sc_law.nd rfl (Or.inl rfl) (pe_call G_Ltext (hr.mono (by decide)) rfl T.F22.mg T.F22.fn.kp T.F22.bd .nil pass0 (pa_cons (pv 2) pa_nil)))
      (pss_cons (ps_set (i := 4) sc_law.nd rfl (Or.inl rfl) (pe_call G_show_program (hr.mono (by decide)) rfl T.F3.mg T.F3.fn.kp T.F3.bd .nil pass0 (pa_cons (pv 2) pa_nil)))
      (pss_cons (ps_if (PW.pt (pw_or (pt_not (pt_val (pe_callB call_isStr rfl T.z_isinstance boot_isinstance (pa_cons (pv 4) (pa_cons (pe_bltn (v := .ty "str") rfl T.z_str boot_str rfl) pa_nil))))) (pw_or1 (pt_cmpR op_neS (pv 4) (pv 3) (nomark _))))) (pss_one (ps_ret pe_bl)) pss_nil)
      (pss_cons (ps_set (i := 5) sc_law.nd rfl (Or.inl rfl) (pe_call G_read_program (hr.mono (by decide)) rfl T.F13.mg T.F13.fn.kp T.F13.bd .nil pass0 (pa_cons (pv 3) pa_nil)))
      (pss_one (ps_if (PW.pt (pw_or (pt_not (pt_val (pe_call (G_Lalike 10) (hr.mono (by decide)) rfl T.F24.mg T.F24.fn.kp T.F24.bd .nil pass0 (pa_cons (pv 5) (pa_cons (pv 2) pa_nil))))) (pw_or1 (pt_cmpR op_neS (pe_call G_show_program (hr.mono (by decide)) rfl T.F3.mg T.F3.fn.kp T.F3.bd .nil pass0 (pa_cons (pv 5) pa_nil)) (pv 3) (nomark _))))) (pss_one (ps_ret pe_bl)) pss_nil)))))))
      (pss_one (ps_ret (pe_call G_Llongright (hr.mono (by decide)) rfl T.F25.mg T.F25.fn.kp T.F25.bd .nil pass0 (pa_cons (pe_call G_Lbox (hr.mono (by decide)) rfl T.F14.mg T.F14.fn.kp T.F14.bd .nil pass0 (pa_cons (pv 0) (pa_cons pe_int pa_nil))) pa_nil)))))), ?_⟩
  obtain ⟨a, ns, rfl, hS, hl, q⟩ := h
  have hs : (900001 : Nat) < sizeLine := by decide
  refine ⟨_, rfl, a, _, rfl, .inl hS, ?_⟩
  refine ⟨_, _, rfl, _, _, rfl, ?_⟩
  have mm : ∀ L : Int, 0 <= L -> ∃ m : Nat, (if (if L < 8 then L else 8) > 3 then (if L < 8 then L else 8) else 3) = (m : Int) /\ m <= 8 := fun L h0 => by
    by_cases c1 : L < 8
    · rw [if_pos c1]
      by_cases c2 : L > 3
      · rw [if_pos c2]; exact ⟨L.toNat, by omega, by omega⟩
      · rw [if_neg c2]; exact ⟨3, rfl, by decide⟩
    · rw [if_neg c1, if_pos (by decide)]; exact ⟨8, rfl, by decide⟩
  obtain ⟨M, hM, hM2⟩ := mm ((ns.map V.int).length : Int) (by omega)
  rw [hM]
  refine ⟨_, rfl, by omega, by omega, ?_⟩
  refine comp_rng (fun i acc H' => ∃ ps : List (Addr × List Rw), acc = ps.map (fun p => V.ref p.1) /\ ps.length = i /\ (∀ p ∈ ps, PgF H' p.1 p.2 /\ p.2.length <= 8) /\ Same H H') (by omega) ⟨[], rfl, rfl, fun _ h => absurd h List.not_mem_nil, Same.refl _⟩ ?_ ?_
  · rintro i acc H1 Nx hi hal ⟨ps, rfl, hpl, hpp, s1⟩ nx
    refine ⟨⟨rfl, trivial⟩, yes_ite ?_⟩
    refine ⟨_, rfl, _, rfl, a, ns, i, by rw [Int.zero_add]; rfl, s1.seq hS, by omega, fun b H2 nb bx s2 => ?_⟩
    refine ⟨b, rfl, bx, fun p ks H3 hpg hkl bx3 s3 => nx _ _ (by simpa using hal) ⟨ps ++ [(p, ks)], by rw [List.map_append]; rfl, by rw [List.length_append, hpl]; rfl, fun r hr => ?_, s1.trans (SameB.same nb s2 s3)⟩⟩
    rcases List.mem_append.mp hr with g | g
    · exact ⟨(hpp r g).1.same (SameB.same nb s2 s3), (hpp r g).2⟩
    · rw [List.mem_singleton.mp g]; exact ⟨hpg, hkl⟩
  rintro acc H1 D hal ⟨ps, rfl, hpl, hpp, s1⟩ nD
  have sD := Same.upd (o := HO.lst (ps.map fun p => V.ref p.1)) nD
  have hD : upd H1 D (HO.lst (ps.map fun p => V.ref p.1)) D = some (HO.lst (ps.map fun p => V.ref p.1)) := upd_same
  have s0D := s1.trans sD
  have hppD : ∀ p ∈ ps, PgF (upd H1 D (HO.lst (ps.map fun p => V.ref p.1))) p.1 p.2 /\ p.2.length <= 8 := fun p hp => ⟨(hpp p hp).1.same sD, (hpp p hp).2⟩
  generalize upd H1 D (HO.lst (ps.map fun p => V.ref p.1)) = H2 at sD hD s0D hppD ⊢
  refine ⟨_, rfl, _, rfl, 1, rfl, D, _, rfl, SqL.of hD, fun p2 n2 => ?_⟩
  have hcv : cutV (ps.map fun p => V.ref p.1) none (some 1) = (ps.take 1).map fun p => V.ref p.1 := by
    have := cut_to (ps.map fun p => V.ref p.1) 1
    rw [show ((1 : Nat) : Int) = 1 from rfl] at this
    show cut (ps.map fun p => V.ref p.1) none (some 1) = _
    rw [this, List.map_take]
  rw [hcv]
  have s3 := Same.upd (o := HO.lst ((ps.take 1).map fun p => V.ref p.1)) n2
  refine ⟨D, p2, _, _, rfl, rfl, s3 _ _ hD, upd_same, by rw [List.length_map, List.length_map, List.length_take]; omega, fun p4 n4 => ?_⟩
  rw [<- List.map_append]
  have s4 := Same.upd (o := HO.lst ((ps ++ ps.take 1).map fun p => V.ref p.1)) n4
  have h4 : upd (upd H2 p2 (HO.lst ((ps.take 1).map fun p => V.ref p.1))) p4 (HO.lst ((ps ++ ps.take 1).map fun p => V.ref p.1)) p4 = some (HO.lst ((ps ++ ps.take 1).map fun p => V.ref p.1)) := upd_same
  have hus : ∀ p ∈ ps ++ ps.take 1, PgF (upd (upd H2 p2 (HO.lst ((ps.take 1).map fun p => V.ref p.1))) p4 (HO.lst ((ps ++ ps.take 1).map fun p => V.ref p.1))) p.1 p.2 /\ p.2.length <= 8 := fun p hp => by
    have hp' : p ∈ ps := (List.mem_append.mp hp).elim id List.mem_of_mem_take
    exact ⟨(hppD p hp').1.same (s3.trans s4), (hppD p hp').2⟩
  have s04 := s0D.trans (s3.trans s4)
  generalize upd (upd H2 p2 (HO.lst ((ps.take 1).map fun p => V.ref p.1))) p4 (HO.lst ((ps ++ ps.take 1).map fun p => V.ref p.1)) = H4 at s4 h4 hus s04 ⊢
  generalize ps ++ ps.take 1 = us at h4 hus
  refine ⟨p4, rfl, ⟨_, SqL.of h4⟩, ?_⟩
  refine for_list (K := K) (a := p4) (xs := us.map fun p => V.ref p.1) (fun i σ H' => ∃ pv tv fv bv : Option V, σ = [some (.ref a), some (.ref D), pv, tv, fv, bv] /\ Same H4 H')
    ⟨none, none, none, none, rfl, Same.refl _⟩ (fun i σ H' _ ⟨_, _, _, _, _, h⟩ => SqL.of (h _ _ h4)) ?_ ?_
  · rintro i x σ H5 hx ⟨pv, tv, fv, bv, rfl, s5⟩
    rw [List.getElem?_map] at hx
    obtain ⟨u, hu, rfl⟩ := Option.map_eq_some_iff.mp hx
    obtain ⟨hpg0, hk8⟩ := hus u (List.mem_of_getElem? hu)
    have hpg := hpg0.same s5
    have e : (rwT u.2).length = u.2.length := by unfold rwT; rw [List.length_map]
    have hzt : (txP (rwT u.2)).length <= 900000 := by
      have := txP_len (rs := rwT u.2) (b := 76800) fun r hr => by
        obtain ⟨k, hk, rfl⟩ := List.mem_map.mp hr
        exact rowT_len (hpg.rw k hk).nf (hpg.rw k hk).tf (hpg.rw k hk).dp
      rw [e] at this
      omega
    have hrs : RsF (rwT u.2) := ⟨fun z => hpg.ne (by unfold rwT at z; exact List.map_eq_nil_iff.mp z), by rw [e]; omega, fun r hr => by
      obtain ⟨k, hk, rfl⟩ := List.mem_map.mp hr
      exact ⟨(hpg.rw k hk).nf, (hpg.rw k hk).tf, (hpg.rw k hk).dp⟩⟩
    refine ⟨_, rfl, u.1, u.2, rfl, .inl hpg.tp, hpg.rw, hpg.ne, hpg.fw, fun H6 s6 => ?_⟩
    refine ⟨_, rfl, u.1, u.2, rfl, hpg.same s6, fun H7 s7 => ?_⟩
    refine ⟨_, rfl, _, rfl, _, rfl, iteN rfl ?_⟩
    refine ⟨_, rfl, _, rfl, _, _, rfl, rfl, _, rfl, iteN (by rw [decide_eq_true rfl]; rfl) ?_⟩
    refine ⟨_, rfl, rwT u.2, rfl, hrs, hzt, fun p' js H8 hpg8 hjs s8 => ?_⟩
    have hpgu8 := ((hpg.same s6).same s7).same s8
    refine ⟨_, rfl, _, rfl, _, _, 9, rfl, rows_al hpg8.tp hpgu8.tp hpg8.rw hpgu8.rw hjs hpg8.fw, by decide, by decide, fun H9 s9 => ?_⟩
    refine ⟨_, rfl, iteN rfl ?_⟩
    refine ⟨_, rfl, p', js, rfl, hpg8.same s9, fun HA sA => ?_⟩
    rw [hjs]
    refine ⟨_, rfl, _, _, rfl, rfl, _, rfl, iteN (by rw [decide_eq_true rfl]; rfl) ?_⟩
    exact ⟨_, _, _, _, rfl, s5.trans (s6.trans (s7.trans (s8.trans (s9.trans sA))))⟩
  · rintro σ H5 ⟨pv, tv, fv, bv, rfl, s5⟩
    refine ⟨_, rfl, a, ns, 8, rfl, (s04.trans s5).seq hS, by decide, fun b H6 nb bx s6 => ?_⟩
    exact ⟨b, rfl, bx, fun H7 s7 => q _⟩
end
theorem us_z {M : List Value -> Prop} (h : M []) : ∀ us : List Value, us.length = 0 -> M us
  | [], _ => h
theorem us_s {M : List Value -> Prop} {n : Nat} (h : ∀ (a : Value) (us : List Value), us.length = n -> M (a :: us)) : ∀ us : List Value, us.length = n + 1 -> M us
  | a :: us, e => h a us (Nat.succ.inj e)
theorem all_mk {l : PySem.W.OpenLaw} {w : World} {K : PySem.W.Frag} {h : Heap} {mg : Str -> Option Value} {fa f0 f1 f2 f3 f4 f5 f6 f7 f8 f9 f10 f11 f12 f13 f14 f15 f17 f18 f19 f20 f21 f22 f23 f24 f25 f26 k_COUNTS k_SIGNS : Addr} (X : K.In h) (G : h.Ns mainGlobals mg) (hfa : mg "law" = some (.ref fa))
    {ep_COUNTS ep_SIGNS : Nat} {es_COUNTS es_SIGNS : Array DictEntry}
    {tc_LETTERS tc_LONGEST_NAME tc_SMALL tc_STROKE tc_IS : Tok}
    {od0 an0 od1 an1 od2 an2 od3 an3 od4 an4 od5 an5 od6 an6 od7 an7 od8 an8 od9 an9 od10 an10 od11 an11 od12 an12 od13 an13 od14 an14 od15 an15 od17 an17 od18 an18 od19 an19 od20 an20 od21 an21 od22 an22 od23 an23 od24 an24 od25 an25 od26 an26 : Option Addr} {sl0 sl1 sl2 sl3 sl4 sl5 sl6 sl7 sl8 sl9 sl10 sl11 sl12 sl13 sl14 sl15 sl17 sl18 sl19 sl20 sl21 sl22 sl23 sl24 sl25 sl26 : Array (Option Value)} {oc0 kV0 dc0 pm0 cd0 ct0 oc1 kV1 dc1 pm1 cd1 ct1 oc2 kV2 dc2 pm2 cd2 ct2 oc3 kV3 dc3 pm3 cd3 ct3 oc4 kV4 dc4 pm4 cd4 ct4 oc5 kV5 dc5 pm5 cd5 ct5 oc6 kV6 dc6 pm6 cd6 ct6 oc7 kV7 dc7 pm7 cd7 ct7 oc8 kV8 dc8 pm8 cd8 ct8 oc9 kV9 dc9 pm9 cd9 ct9 oc10 kV10 dc10 pm10 cd10 ct10 oc11 kV11 dc11 pm11 cd11 ct11 oc12 kV12 dc12 pm12 cd12 ct12 oc13 kV13 dc13 pm13 cd13 ct13 oc14 kV14 dc14 pm14 cd14 ct14 oc15 kV15 dc15 pm15 cd15 ct15 oc17 kV17 dc17 pm17 cd17 ct17 oc18 kV18 dc18 pm18 cd18 ct18 oc19 kV19 dc19 pm19 cd19 ct19 oc20 kV20 dc20 pm20 cd20 ct20 oc21 kV21 dc21 pm21 cd21 ct21 oc22 kV22 dc22 pm22 cd22 ct22 oc23 kV23 dc23 pm23 cd23 ct23 oc24 kV24 dc24 pm24 cd24 ct24 oc25 kV25 dc25 pm25 cd25 ct25 oc26 kV26 dc26 pm26 cd26 ct26 : Value}
    (a0 : PySem.W.nsIn K mainGlobals "is_letter" = some (some (.ref f0)))
    (l0 : K.lookup f0 = some ⟨oc0, od0, .func (PySem.W.fnOf "is_letter" "is_letter" (defArgs s_is_letter) (defBody s_is_letter) (defScope s_is_letter) .none kV0 dc0 pm0 an0 cd0 ct0), sl0⟩)
    (c0 : PySem.W.codeIn K cd0 "is_letter" = true)
    (k0 : PySem.W.keepIn K (.ref f0) = true)
    (a1 : PySem.W.nsIn K mainGlobals "is_name" = some (some (.ref f1)))
    (l1 : K.lookup f1 = some ⟨oc1, od1, .func (PySem.W.fnOf "is_name" "is_name" (defArgs s_is_name) (defBody s_is_name) (defScope s_is_name) .none kV1 dc1 pm1 an1 cd1 ct1), sl1⟩)
    (c1 : PySem.W.codeIn K cd1 "is_name" = true)
    (k1 : PySem.W.keepIn K (.ref f1) = true)
    (a2 : PySem.W.nsIn K mainGlobals "term_text" = some (some (.ref f2)))
    (l2 : K.lookup f2 = some ⟨oc2, od2, .func (PySem.W.fnOf "term_text" "term_text" (defArgs s_term_text) (defBody s_term_text) (defScope s_term_text) .none kV2 dc2 pm2 an2 cd2 ct2), sl2⟩)
    (c2 : PySem.W.codeIn K cd2 "term_text" = true)
    (k2 : PySem.W.keepIn K (.ref f2) = true)
    (a3 : PySem.W.nsIn K mainGlobals "show_program" = some (some (.ref f3)))
    (l3 : K.lookup f3 = some ⟨oc3, od3, .func (PySem.W.fnOf "show_program" "show_program" (defArgs s_show_program) (defBody s_show_program) (defScope s_show_program) .none kV3 dc3 pm3 an3 cd3 ct3), sl3⟩)
    (c3 : PySem.W.codeIn K cd3 "show_program" = true)
    (k3 : PySem.W.keepIn K (.ref f3) = true)
    (a4 : PySem.W.nsIn K mainGlobals "is_row_name" = some (some (.ref f4)))
    (l4 : K.lookup f4 = some ⟨oc4, od4, .func (PySem.W.fnOf "is_row_name" "is_row_name" (defArgs s_is_row_name) (defBody s_is_row_name) (defScope s_is_row_name) .none kV4 dc4 pm4 an4 cd4 ct4), sl4⟩)
    (c4 : PySem.W.codeIn K cd4 "is_row_name" = true)
    (k4 : PySem.W.keepIn K (.ref f4) = true)
    (a5 : PySem.W.nsIn K mainGlobals "read_walk" = some (some (.ref f5)))
    (l5 : K.lookup f5 = some ⟨oc5, od5, .func (PySem.W.fnOf "read_walk" "read_walk" (defArgs s_read_walk) (defBody s_read_walk) (defScope s_read_walk) .none kV5 dc5 pm5 an5 cd5 ct5), sl5⟩)
    (c5 : PySem.W.codeIn K cd5 "read_walk" = true)
    (k5 : PySem.W.keepIn K (.ref f5) = true)
    (a6 : PySem.W.nsIn K mainGlobals "read_name" = some (some (.ref f6)))
    (l6 : K.lookup f6 = some ⟨oc6, od6, .func (PySem.W.fnOf "read_name" "read_name" (defArgs s_read_name) (defBody s_read_name) (defScope s_read_name) .none kV6 dc6 pm6 an6 cd6 ct6), sl6⟩)
    (c6 : PySem.W.codeIn K cd6 "read_name" = true)
    (k6 : PySem.W.keepIn K (.ref f6) = true)
    (a7 : PySem.W.nsIn K mainGlobals "read_kind" = some (some (.ref f7)))
    (l7 : K.lookup f7 = some ⟨oc7, od7, .func (PySem.W.fnOf "read_kind" "read_kind" (defArgs s_read_kind) (defBody s_read_kind) (defScope s_read_kind) .none kV7 dc7 pm7 an7 cd7 ct7), sl7⟩)
    (c7 : PySem.W.codeIn K cd7 "read_kind" = true)
    (k7 : PySem.W.keepIn K (.ref f7) = true)
    (a8 : PySem.W.nsIn K mainGlobals "read_sign" = some (some (.ref f8)))
    (l8 : K.lookup f8 = some ⟨oc8, od8, .func (PySem.W.fnOf "read_sign" "read_sign" (defArgs s_read_sign) (defBody s_read_sign) (defScope s_read_sign) .none kV8 dc8 pm8 an8 cd8 ct8), sl8⟩)
    (c8 : PySem.W.codeIn K cd8 "read_sign" = true)
    (k8 : PySem.W.keepIn K (.ref f8) = true)
    (a9 : PySem.W.nsIn K mainGlobals "read_terms" = some (some (.ref f9)))
    (l9 : K.lookup f9 = some ⟨oc9, od9, .func (PySem.W.fnOf "read_terms" "read_terms" (defArgs s_read_terms) (defBody s_read_terms) (defScope s_read_terms) .none kV9 dc9 pm9 an9 cd9 ct9), sl9⟩)
    (c9 : PySem.W.codeIn K cd9 "read_terms" = true)
    (k9 : PySem.W.keepIn K (.ref f9) = true)
    (a10 : PySem.W.nsIn K mainGlobals "read_made" = some (some (.ref f10)))
    (l10 : K.lookup f10 = some ⟨oc10, od10, .func (PySem.W.fnOf "read_made" "read_made" (defArgs s_read_made) (defBody s_read_made) (defScope s_read_made) .none kV10 dc10 pm10 an10 cd10 ct10), sl10⟩)
    (c10 : PySem.W.codeIn K cd10 "read_made" = true)
    (k10 : PySem.W.keepIn K (.ref f10) = true)
    (a11 : PySem.W.nsIn K mainGlobals "read_term" = some (some (.ref f11)))
    (l11 : K.lookup f11 = some ⟨oc11, od11, .func (PySem.W.fnOf "read_term" "read_term" (defArgs s_read_term) (defBody s_read_term) (defScope s_read_term) .none kV11 dc11 pm11 an11 cd11 ct11), sl11⟩)
    (c11 : PySem.W.codeIn K cd11 "read_term" = true)
    (k11 : PySem.W.keepIn K (.ref f11) = true)
    (a12 : PySem.W.nsIn K mainGlobals "read_row" = some (some (.ref f12)))
    (l12 : K.lookup f12 = some ⟨oc12, od12, .func (PySem.W.fnOf "read_row" "read_row" (defArgs s_read_row) (defBody s_read_row) (defScope s_read_row) .none kV12 dc12 pm12 an12 cd12 ct12), sl12⟩)
    (c12 : PySem.W.codeIn K cd12 "read_row" = true)
    (k12 : PySem.W.keepIn K (.ref f12) = true)
    (a13 : PySem.W.nsIn K mainGlobals "read_program" = some (some (.ref f13)))
    (l13 : K.lookup f13 = some ⟨oc13, od13, .func (PySem.W.fnOf "read_program" "read_program" (defArgs s_read_program) (defBody s_read_program) (defScope s_read_program) .none kV13 dc13 pm13 an13 cd13 ct13), sl13⟩)
    (c13 : PySem.W.codeIn K cd13 "read_program" = true)
    (k13 : PySem.W.keepIn K (.ref f13) = true)
    (a14 : PySem.W.nsIn K mainGlobals "_law_box" = some (some (.ref f14)))
    (l14 : K.lookup f14 = some ⟨oc14, od14, .func (PySem.W.fnOf "_law_box" "_law_box" (defArgs s_Lbox) (defBody s_Lbox) (defScope s_Lbox) .none kV14 dc14 pm14 an14 cd14 ct14), sl14⟩)
    (c14 : PySem.W.codeIn K cd14 "_law_box" = true)
    (k14 : PySem.W.keepIn K (.ref f14) = true)
    (a15 : PySem.W.nsIn K mainGlobals "_law_take" = some (some (.ref f15)))
    (l15 : K.lookup f15 = some ⟨oc15, od15, .func (PySem.W.fnOf "_law_take" "_law_take" (defArgs s_Ltake) (defBody s_Ltake) (defScope s_Ltake) .none kV15 dc15 pm15 an15 cd15 ct15), sl15⟩)
    (c15 : PySem.W.codeIn K cd15 "_law_take" = true)
    (k15 : PySem.W.keepIn K (.ref f15) = true)
    (a17 : PySem.W.nsIn K mainGlobals "_law_names" = some (some (.ref f17)))
    (l17 : K.lookup f17 = some ⟨oc17, od17, .func (PySem.W.fnOf "_law_names" "_law_names" (defArgs s_Lnames) (defBody s_Lnames) (defScope s_Lnames) .none kV17 dc17 pm17 an17 cd17 ct17), sl17⟩)
    (c17 : PySem.W.codeIn K cd17 "_law_names" = true)
    (k17 : PySem.W.keepIn K (.ref f17) = true)
    (a18 : PySem.W.nsIn K mainGlobals "_law_pool" = some (some (.ref f18)))
    (l18 : K.lookup f18 = some ⟨oc18, od18, .func (PySem.W.fnOf "_law_pool" "_law_pool" (defArgs s_Lpool) (defBody s_Lpool) (defScope s_Lpool) .none kV18 dc18 pm18 an18 cd18 ct18), sl18⟩)
    (c18 : PySem.W.codeIn K cd18 "_law_pool" = true)
    (k18 : PySem.W.keepIn K (.ref f18) = true)
    (a19 : PySem.W.nsIn K mainGlobals "_law_walk" = some (some (.ref f19)))
    (l19 : K.lookup f19 = some ⟨oc19, od19, .func (PySem.W.fnOf "_law_walk" "_law_walk" (defArgs s_Lwalk) (defBody s_Lwalk) (defScope s_Lwalk) .none kV19 dc19 pm19 an19 cd19 ct19), sl19⟩)
    (c19 : PySem.W.codeIn K cd19 "_law_walk" = true)
    (k19 : PySem.W.keepIn K (.ref f19) = true)
    (a20 : PySem.W.nsIn K mainGlobals "_law_term" = some (some (.ref f20)))
    (l20 : K.lookup f20 = some ⟨oc20, od20, .func (PySem.W.fnOf "_law_term" "_law_term" (defArgs s_Lterm) (defBody s_Lterm) (defScope s_Lterm) .none kV20 dc20 pm20 an20 cd20 ct20), sl20⟩)
    (c20 : PySem.W.codeIn K cd20 "_law_term" = true)
    (k20 : PySem.W.keepIn K (.ref f20) = true)
    (a21 : PySem.W.nsIn K mainGlobals "_law_term_text" = some (some (.ref f21)))
    (l21 : K.lookup f21 = some ⟨oc21, od21, .func (PySem.W.fnOf "_law_term_text" "_law_term_text" (defArgs s_Ltermtext) (defBody s_Ltermtext) (defScope s_Ltermtext) .none kV21 dc21 pm21 an21 cd21 ct21), sl21⟩)
    (c21 : PySem.W.codeIn K cd21 "_law_term_text" = true)
    (k21 : PySem.W.keepIn K (.ref f21) = true)
    (a22 : PySem.W.nsIn K mainGlobals "_law_text" = some (some (.ref f22)))
    (l22 : K.lookup f22 = some ⟨oc22, od22, .func (PySem.W.fnOf "_law_text" "_law_text" (defArgs s_Ltext) (defBody s_Ltext) (defScope s_Ltext) .none kV22 dc22 pm22 an22 cd22 ct22), sl22⟩)
    (c22 : PySem.W.codeIn K cd22 "_law_text" = true)
    (k22 : PySem.W.keepIn K (.ref f22) = true)
    (a23 : PySem.W.nsIn K mainGlobals "_law_small_program" = some (some (.ref f23)))
    (l23 : K.lookup f23 = some ⟨oc23, od23, .func (PySem.W.fnOf "_law_small_program" "_law_small_program" (defArgs s_Lsmallprogram) (defBody s_Lsmallprogram) (defScope s_Lsmallprogram) .none kV23 dc23 pm23 an23 cd23 ct23), sl23⟩)
    (c23 : PySem.W.codeIn K cd23 "_law_small_program" = true)
    (k23 : PySem.W.keepIn K (.ref f23) = true)
    (a24 : PySem.W.nsIn K mainGlobals "_law_alike" = some (some (.ref f24)))
    (l24 : K.lookup f24 = some ⟨oc24, od24, .func (PySem.W.fnOf "_law_alike" "_law_alike" (defArgs s_Lalike) (defBody s_Lalike) (defScope s_Lalike) .none kV24 dc24 pm24 an24 cd24 ct24), sl24⟩)
    (c24 : PySem.W.codeIn K cd24 "_law_alike" = true)
    (k24 : PySem.W.keepIn K (.ref f24) = true)
    (a25 : PySem.W.nsIn K mainGlobals "_law_long_right" = some (some (.ref f25)))
    (l25 : K.lookup f25 = some ⟨oc25, od25, .func (PySem.W.fnOf "_law_long_right" "_law_long_right" (defArgs s_Llongright) (defBody s_Llongright) (defScope s_Llongright) .none kV25 dc25 pm25 an25 cd25 ct25), sl25⟩)
    (c25 : PySem.W.codeIn K cd25 "_law_long_right" = true)
    (k25 : PySem.W.keepIn K (.ref f25) = true)
    (a26 : PySem.W.nsIn K mainGlobals "law" = some (some (.ref f26)))
    (l26 : K.lookup f26 = some ⟨oc26, od26, .func (PySem.W.fnOf "law" "law" (defArgs s_law) (defBody s_law) (defScope s_law) .none kV26 dc26 pm26 an26 cd26 ct26), sl26⟩)
    (c26 : PySem.W.codeIn K cd26 "law" = true)
    (k26 : PySem.W.keepIn K (.ref f26) = true)
    (qk_COUNTS : PySem.W.nsIn K mainGlobals "COUNTS" = some (some (.ref k_COUNTS)))
    (lk_COUNTS : K.lookup k_COUNTS = some ⟨.type "dict", none, .dict es_COUNTS ep_COUNTS, #[]⟩)
    (ek_COUNTS : KE kv_COUNTS w es_COUNTS)
    (sk_COUNTS : (k_COUNTS == sysModules) = false)
    (qk_SIGNS : PySem.W.nsIn K mainGlobals "SIGNS" = some (some (.ref k_SIGNS)))
    (lk_SIGNS : K.lookup k_SIGNS = some ⟨.type "dict", none, .dict es_SIGNS ep_SIGNS, #[]⟩)
    (ek_SIGNS : KE kv_SIGNS w es_SIGNS)
    (sk_SIGNS : (k_SIGNS == sysModules) = false)
    (g_LETTERS : PySem.W.nsIn K mainGlobals "LETTERS" = some (some (.str (S [97, 98, 99, 100, 101, 102, 103, 104, 105, 106, 107, 108, 109, 110, 111, 112, 113, 114, 115, 116, 117, 118, 119, 120, 121, 122, 65, 66, 67, 68, 69, 70, 71, 72, 73, 74, 75, 76, 77, 78, 79, 80, 81, 82, 83, 84, 85, 86, 87, 88, 89, 90]) tc_LETTERS)))
    (g_LONGEST_NAME : PySem.W.nsIn K mainGlobals "LONGEST_NAME" = some (some (.int 6 tc_LONGEST_NAME)))
    (g_SMALL : PySem.W.nsIn K mainGlobals "SMALL" = some (some (.str (S [97, 98, 99, 100, 101, 102, 103, 104, 105, 106, 107, 108, 109, 110, 111, 112, 113, 114, 115, 116, 117, 118, 119, 120, 121, 122]) tc_SMALL)))
    (g_STROKE : PySem.W.nsIn K mainGlobals "STROKE" = some (some (.str (S [39]) tc_STROKE)))
    (g_IS : PySem.W.nsIn K mainGlobals "IS" = some (some (.str (S [32, 61, 32]) tc_IS)))
    (z_all : PySem.W.nsIn K mainGlobals "all" = some none)
    (z_bool : PySem.W.nsIn K mainGlobals "bool" = some none)
    (z_enumerate : PySem.W.nsIn K mainGlobals "enumerate" = some none)
    (z_int : PySem.W.nsIn K mainGlobals "int" = some none)
    (z_isinstance : PySem.W.nsIn K mainGlobals "isinstance" = some none)
    (z_len : PySem.W.nsIn K mainGlobals "len" = some none)
    (z_max : PySem.W.nsIn K mainGlobals "max" = some none)
    (z_min : PySem.W.nsIn K mainGlobals "min" = some none)
    (z_range : PySem.W.nsIn K mainGlobals "range" = some none)
    (z_str : PySem.W.nsIn K mainGlobals "str" = some none)
    (z_tuple : PySem.W.nsIn K mainGlobals "tuple" = some none)
    (z_zip : PySem.W.nsIn K mainGlobals "zip" = some none) :
    ∃ fd : FuncData, (∀ (s : Shared) (v : Value), BindsTo s fd ⟨[v], []⟩ [("_law_script", v)]) /\ ∀ base : Heap, K.In base -> base.Ns mainGlobals mg -> FnOk l.prog w K mg base CX0 32 fa fd ["_law_script"] (sp_law K) := by
  have e := hfa.symm.trans (PySem.W.mg_of X G a26)
  cases e
  have F0 := fun_mk (st := s_is_letter) l0 c0 k0
  have b0 := F0.binds (ps := ["sign"]) fun _ _ _ _ _ _ => us_s fun _ => us_z rfl
  have F1 := fun_mk (st := s_is_name) l1 c1 k1
  have b1 := F1.binds (ps := ["text"]) fun _ _ _ _ _ _ => us_s fun _ => us_z rfl
  have F2 := fun_mk (st := s_term_text) l2 c2 k2
  have b2 := F2.binds (ps := ["term"]) fun _ _ _ _ _ _ => us_s fun _ => us_z rfl
  have F3 := fun_mk (st := s_show_program) l3 c3 k3
  have b3 := F3.binds (ps := ["program"]) fun _ _ _ _ _ _ => us_s fun _ => us_z rfl
  have F4 := fun_mk (st := s_is_row_name) l4 c4 k4
  have b4 := F4.binds (ps := ["text"]) fun _ _ _ _ _ _ => us_s fun _ => us_z rfl
  have F5 := fun_mk (st := s_read_walk) l5 c5 k5
  have b5 := F5.binds (ps := ["row", "start"]) fun _ _ _ _ _ _ => us_s fun _ => us_s fun _ => us_z rfl
  have F6 := fun_mk (st := s_read_name) l6 c6 k6
  have b6 := F6.binds (ps := ["row", "start"]) fun _ _ _ _ _ _ => us_s fun _ => us_s fun _ => us_z rfl
  have F7 := fun_mk (st := s_read_kind) l7 c7 k7
  have b7 := F7.binds (ps := ["row", "start"]) fun _ _ _ _ _ _ => us_s fun _ => us_s fun _ => us_z rfl
  have F8 := fun_mk (st := s_read_sign) l8 c8 k8
  have b8 := F8.binds (ps := ["kind", "row", "start"]) fun _ _ _ _ _ _ => us_s fun _ => us_s fun _ => us_s fun _ => us_z rfl
  have F9 := fun_mk (st := s_read_terms) l9 c9 k9
  have b9 := F9.binds (ps := ["count", "row", "start"]) fun _ _ _ _ _ _ => us_s fun _ => us_s fun _ => us_s fun _ => us_z rfl
  have F10 := fun_mk (st := s_read_made) l10 c10 k10
  have b10 := F10.binds (ps := ["row", "start"]) fun _ _ _ _ _ _ => us_s fun _ => us_s fun _ => us_z rfl
  have F11 := fun_mk (st := s_read_term) l11 c11 k11
  have b11 := F11.binds (ps := ["row", "start"]) fun _ _ _ _ _ _ => us_s fun _ => us_s fun _ => us_z rfl
  have F12 := fun_mk (st := s_read_row) l12 c12 k12
  have b12 := F12.binds (ps := ["row"]) fun _ _ _ _ _ _ => us_s fun _ => us_z rfl
  have F13 := fun_mk (st := s_read_program) l13 c13 k13
  have b13 := F13.binds (ps := ["text"]) fun _ _ _ _ _ _ => us_s fun _ => us_z rfl
  have F14 := fun_mk (st := s_Lbox) l14 c14 k14
  have b14 := F14.binds (ps := ["_law_script", "_law_k"]) fun _ _ _ _ _ _ => us_s fun _ => us_s fun _ => us_z rfl
  have F15 := fun_mk (st := s_Ltake) l15 c15 k15
  have b15 := F15.binds (ps := ["_law_box_here", "_law_many"]) fun _ _ _ _ _ _ => us_s fun _ => us_s fun _ => us_z rfl
  have F17 := fun_mk (st := s_Lnames) l17 c17 k17
  have b17 := F17.binds (ps := ["_law_box_here", "_law_many"]) fun _ _ _ _ _ _ => us_s fun _ => us_s fun _ => us_z rfl
  have F18 := fun_mk (st := s_Lpool) l18 c18 k18
  have b18 := F18.binds (ps := ["_law_box_here"]) fun _ _ _ _ _ _ => us_s fun _ => us_z rfl
  have F19 := fun_mk (st := s_Lwalk) l19 c19 k19
  have b19 := F19.binds (ps := ["_law_box_here", "_law_pool_here"]) fun _ _ _ _ _ _ => us_s fun _ => us_s fun _ => us_z rfl
  have F20 := fun_mk (st := s_Lterm) l20 c20 k20
  have b20 := F20.binds (ps := ["_law_box_here", "_law_known", "_law_pool_here", "_law_room", "_law_deep"]) fun _ _ _ _ _ _ => us_s fun _ => us_s fun _ => us_s fun _ => us_s fun _ => us_s fun _ => us_z rfl
  have F21 := fun_mk (st := s_Ltermtext) l21 c21 k21
  have b21 := F21.binds (ps := ["_law_term_here"]) fun _ _ _ _ _ _ => us_s fun _ => us_z rfl
  have F22 := fun_mk (st := s_Ltext) l22 c22 k22
  have b22 := F22.binds (ps := ["_law_program"]) fun _ _ _ _ _ _ => us_s fun _ => us_z rfl
  have F23 := fun_mk (st := s_Lsmallprogram) l23 c23 k23
  have b23 := F23.binds (ps := ["_law_box_here"]) fun _ _ _ _ _ _ => us_s fun _ => us_z rfl
  have F24 := fun_mk (st := s_Lalike) l24 c24 k24
  have b24 := F24.binds (ps := ["_law_found", "_law_due"]) fun _ _ _ _ _ _ => us_s fun _ => us_s fun _ => us_z rfl
  have F25 := fun_mk (st := s_Llongright) l25 c25 k25
  have b25 := F25.binds (ps := ["_law_box_here"]) fun _ _ _ _ _ _ => us_s fun _ => us_z rfl
  have F26 := fun_mk (st := s_law) l26 c26 k26
  have b26 := F26.binds (ps := ["_law_script"]) fun _ _ _ _ _ _ => us_s fun _ => us_z rfl
  have T : Txt l.prog w K mg _ _ _ _ _ _ _ _ _ _ _ _ _ _ _ _ _ _ _ _ _ _ _ _ _ _ _ _ _ _ _ _ _ _ _ _ _ _ _ _ _ _ _ _ _ _ _ _ _ _ _ _ _ _ := ⟨⟨F0, PySem.W.mg_of X G a0, b0⟩, ⟨F1, PySem.W.mg_of X G a1, b1⟩, ⟨F2, PySem.W.mg_of X G a2, b2⟩, ⟨F3, PySem.W.mg_of X G a3, b3⟩, ⟨F4, PySem.W.mg_of X G a4, b4⟩, ⟨F5, PySem.W.mg_of X G a5, b5⟩, ⟨F6, PySem.W.mg_of X G a6, b6⟩, ⟨F7, PySem.W.mg_of X G a7, b7⟩, ⟨F8, PySem.W.mg_of X G a8, b8⟩, ⟨F9, PySem.W.mg_of X G a9, b9⟩, ⟨F10, PySem.W.mg_of X G a10, b10⟩, ⟨F11, PySem.W.mg_of X G a11, b11⟩, ⟨F12, PySem.W.mg_of X G a12, b12⟩, ⟨F13, PySem.W.mg_of X G a13, b13⟩, ⟨F14, PySem.W.mg_of X G a14, b14⟩, ⟨F15, PySem.W.mg_of X G a15, b15⟩, ⟨F17, PySem.W.mg_of X G a17, b17⟩, ⟨F18, PySem.W.mg_of X G a18, b18⟩, ⟨F19, PySem.W.mg_of X G a19, b19⟩, ⟨F20, PySem.W.mg_of X G a20, b20⟩, ⟨F21, PySem.W.mg_of X G a21, b21⟩, ⟨F22, PySem.W.mg_of X G a22, b22⟩, ⟨F23, PySem.W.mg_of X G a23, b23⟩, ⟨F24, PySem.W.mg_of X G a24, b24⟩, ⟨F25, PySem.W.mg_of X G a25, b25⟩, ⟨F26, PySem.W.mg_of X G a26, b26⟩, PySem.W.mg_of X G qk_COUNTS, KE.kd lk_COUNTS ek_COUNTS sk_COUNTS (by decide), PySem.W.mg_of X G qk_SIGNS, KE.kd lk_SIGNS ek_SIGNS sk_SIGNS (by decide), PySem.W.mg_none_of X G z_all, PySem.W.mg_none_of X G z_bool, PySem.W.mg_none_of X G z_enumerate, PySem.W.mg_none_of X G z_int, PySem.W.mg_none_of X G z_isinstance, PySem.W.mg_none_of X G z_len, PySem.W.mg_none_of X G z_max, PySem.W.mg_none_of X G z_min, PySem.W.mg_none_of X G z_range, PySem.W.mg_none_of X G z_str, PySem.W.mg_none_of X G z_tuple, PySem.W.mg_none_of X G z_zip, ⟨_, PySem.W.mg_of X G g_LETTERS⟩, ⟨_, PySem.W.mg_of X G g_LONGEST_NAME⟩, ⟨_, PySem.W.mg_of X G g_SMALL⟩, ⟨_, PySem.W.mg_of X G g_STROKE⟩, ⟨_, PySem.W.mg_of X G g_IS⟩⟩
  exact ⟨_, fun s v => .of_eq rfl, fun base _ _ => ok_law T⟩
theorem walk {l : PySem.W.OpenLaw} {q : Program} {loose : List Str} {XP : (Str -> Option Value) -> Heap -> Prop} {YP : World -> Heap -> Prop} {d : DefRec} {K : Params -> PySem.W.Frag} (hn : l.most = some 63) (hdf : d.params.defaults = [])
    (hY : ∀ (w : World) (h : Heap), YP w h -> (K w.params).In h)
    (F : ∀ (w : World) (mg : Str -> Option Value) (fa : Addr) (h : Heap), (K w.params).In h -> h.Ns mainGlobals mg -> mg d.name = some (.ref fa) ->
      ∃ fd : FuncData, (∀ (s : Shared) (u : Value), BindsTo s fd ⟨[u], []⟩ [("_law_script", u)]) /\ ∀ base : Heap, (K w.params).In base -> base.Ns mainGlobals mg -> FnOk l.prog w (K w.params) mg base CX0 32 fa fd ["_law_script"] (sp_law (K w.params))) :
    PySem.W.WalkO q loose XP YP l.row.toRowW d [] (fun f vs => PySem.call f vs) :=
  L2.walk_of (n := 63) (k := 32) (x := "_law_script") (CX := fun _ => CX0) (sp := fun w => sp_law (K w.params)) hn (by decide) hdf ⟨rfl, by decide, by decide, rfl⟩ hY F (fun _ _ a ns hl _ hS => ⟨a, ns, rfl, hS, hl, fun _ => rfl⟩) fun _ _ _ _ _ z => z
end My
namespace PySem.W.Fast
def tw10012697315230727946:=0
def tw10069190774259803284:=0
def tw10127612107775918366:=0
def tw10133720091553129775:=0
def tw10134280612439387739:=0
def tw1024853081728581267:=0
def tw10283291654314990306:=0
def tw10344233777842432740:=0
def tw10402066682044977541:=0
def tw10523696745560364490:=0
def tw10660204902037857403:=0
def tw10679240388265326281:=0
def tw10681665497002836744:=0
def tw10688024336779107335:=0
def tw10693134208888704516:=0
def tw10694312863652856542:=0
def tw10711383704232315089:=0
def tw10881703891906436412:=0
def tw10896952851317423164:=0
def tw11006893716570053170:=0
def tw1106463079946965358:=0
def tw11069373031808316407:=0
def tw11191754718970095645:=0
def tw11210057461935897781:=0
def tw11274961390229858389:=0
def tw11309056773285193617:=0
def tw11311311044124035492:=0
def tw11327499111184295589:=0
def tw11582343441916560271:=0
def tw11641306226397308643:=0
def tw11643659192317865732:=0
def tw11737616746227766392:=0
def tw11862789853224425151:=0
def tw12020432769849144778:=0
def tw12096092489130440571:=0
def tw12135715605463691549:=0
def tw12259885429039854889:=0
def tw12261612104492433342:=0
def tw12316608490444589485:=0
def tw12365721302677520162:=0
def tw12374528766221028099:=0
def tw12417517814023957115:=0
def tw12571125721056003187:=0
def tw12683384504208858683:=0
def tw12698463710715936010:=0
def tw12733341025363412238:=0
def tw12792514702019027595:=0
def tw12837546082902066704:=0
def tw1284395535328917784:=0
def tw12895585980584150863:=0
def tw12970051525673193775:=0
def tw12973158356072843364:=0
def tw13081862553524307449:=0
def tw13104008569305956046:=0
def tw13146748387463354394:=0
def tw13179324163434769842:=0
def tw13352964166417582581:=0
def tw13458751293800633315:=0
def tw13494310500464657319:=0
def tw13512849534578261001:=0
def tw13556748050871630307:=0
def tw13629941792565538855:=0
def tw13675789485295486077:=0
def tw13750790740502200341:=0
def tw13953896378523902415:=0
def tw14024960224177477451:=0
def tw14119003690191988510:=0
def tw14261712424104469726:=0
def tw14321877101476707108:=0
def tw14326048298392824731:=0
def tw1446265059186041872:=0
def tw14575392194479614767:=0
def tw14714153901173155184:=0
def tw1490547430396535176:=0
def tw15091835683580774591:=0
def tw15299555331403774926:=0
def tw15432725967330252517:=0
def tw15476342961538421673:=0
def tw15512996652400158756:=0
def tw15585270251346456826:=0
def tw15686608784896425188:=0
def tw15717459435633634587:=0
def tw15898268738561871142:=0
def tw16123407625980851226:=0
def tw16126474994533273069:=0
def tw16302924122542844825:=0
def tw16331976175956911580:=0
def tw16335212001866029660:=0
def tw16503753838747108266:=0
def tw16646021588489223605:=0
def tw16715526577916546085:=0
def tw16941366443955424810:=0
def tw17162616707695821679:=0
def tw17407559378336410146:=0
def tw1744600935576343340:=0
def tw17464861376186896896:=0
def tw17585502259038933747:=0
def tw17589636454735704105:=0
def tw17604307347388079536:=0
def tw1778403202110741055:=0
def tw17798208002033216785:=0
def tw17861243002255483098:=0
def tw18013485693413504049:=0
def tw18146402124635785226:=0
def tw18197157887186812918:=0
def tw18281362376042910333:=0
def tw18424597221115135794:=0
def tw1864454119942433112:=0
def tw1955782925555960180:=0
def tw2050580661375971722:=0
def tw2295948093968003144:=0
def tw2300275622999482960:=0
def tw2317392994115372504:=0
def tw2331325688576894078:=0
def tw2619734339792991248:=0
def tw2622003670787063489:=0
def tw2680458662770411968:=0
def tw2828730993551781226:=0
def tw2898351964470570529:=0
def tw3015551566947931636:=0
def tw3049375106814757822:=0
def tw3251154234068615529:=0
def tw3285885784476905268:=0
def tw3294034703397200460:=0
def tw3354275063699585209:=0
def tw3477643784994974602:=0
def tw3480702930117465929:=0
def tw3708426528114683836:=0
def tw3753398534896386611:=0
def tw3760597090747696115:=0
def tw3858668120658178473:=0
def tw3919554266762129554:=0
def tw4012310994665282300:=0
def tw4132987806707403595:=0
def tw4138017799799819821:=0
def tw4147361693670585609:=0
def tw418436730849888258:=0
def tw4249084244861146754:=0
def tw4299150305571572050:=0
def tw4304792472795723386:=0
def tw450896734370775058:=0
def tw4545973537716847990:=0
def tw4548862985804494436:=0
def tw4632660809673461304:=0
def tw4776621829278829018:=0
def tw4893066801359892446:=0
def tw5033327574574310882:=0
def tw5083013446478669631:=0
def tw5191539306945196620:=0
def tw5261920361921490289:=0
def tw5271884268548829748:=0
def tw5373749671578427351:=0
def tw5389864026825943927:=0
def tw5497385769624409332:=0
def tw5511610683175811277:=0
def tw5525902444672370657:=0
def tw566624259824049832:=0
def tw5785376440666725471:=0
def tw5845095166271577698:=0
def tw6324774022672566249:=0
def tw6730873093410736047:=0
def tw6734959708180401523:=0
def tw6804082275834178291:=0
def tw6921953237139318827:=0
def tw6928356472704884082:=0
def tw6961623264203337196:=0
def tw7038031885015006488:=0
def tw7050248482827178185:=0
def tw7195904642668112682:=0
def tw7239665698578410397:=0
def tw7373757185614672247:=0
def tw7394308619561176107:=0
def tw7394666906210438759:=0
def tw7429056009997403814:=0
def tw75480562061229779:=0
def tw7688437976414086862:=0
def tw7705366721029154344:=0
def tw7742478617975316783:=0
def tw7873153621920188123:=0
def tw7893177386890929133:=0
def tw8028181696419548158:=0
def tw8240060120067529513:=0
def tw8352344773750316929:=0
def tw8375485595127475088:=0
def tw8411248510552443318:=0
def tw8427674187169880331:=0
def tw8708278289557507522:=0
def tw8798103679073093389:=0
def tw8875225094561322481:=0
def tw9008332558984065760:=0
def tw9199007861365956479:=0
def tw9293623186673572653:=0
def tw940708721218829780:=0
def tw9448597288482712631:=0
def tw9477253870416536017:=0
def tw9611480181616224583:=0
def tw9786070245505269913:=0
def tw9809681824542547704:=0
def tw9874608623841594769:=0
def tw9877547170429576747:=0
end PySem.W.Fast
open PySem PySem.W PyProof.Rows
set_option maxRecDepth 100000 in
set_option maxHeartbeats 0 in
theorem PySem.Challenge.cw_mustmeet_k60_programs_as_texts_holds : PySem.Challenge.rw_mustmeet_k60_programs_as_texts.Holds := by
  w_on; o_law; k_head; (case hw => w_witness2)
  k_fill
  refine My.walk (l := PySem.Challenge.rw_mustmeet_k60_programs_as_texts) rfl rfl (fun w h Y => PySem.W.kIn_of Y) ?F
  case F =>
    intro w mg fa h KX G hmg
    refine' My.all_mk KX G hmg ?a0 ?l0 ?c0 ?k0 ?a1 ?l1 ?c1 ?k1 ?a2 ?l2 ?c2 ?k2 ?a3 ?l3 ?c3 ?k3 ?a4 ?l4 ?c4 ?k4 ?a5 ?l5 ?c5 ?k5 ?a6 ?l6 ?c6 ?k6 ?a7 ?l7 ?c7 ?k7 ?a8 ?l8 ?c8 ?k8 ?a9 ?l9 ?c9 ?k9 ?a10 ?l10 ?c10 ?k10 ?a11 ?l11 ?c11 ?k11 ?a12 ?l12 ?c12 ?k12 ?a13 ?l13 ?c13 ?k13 ?a14 ?l14 ?c14 ?k14 ?a15 ?l15 ?c15 ?k15 ?a17 ?l17 ?c17 ?k17 ?a18 ?l18 ?c18 ?k18 ?a19 ?l19 ?c19 ?k19 ?a20 ?l20 ?c20 ?k20 ?a21 ?l21 ?c21 ?k21 ?a22 ?l22 ?c22 ?k22 ?a23 ?l23 ?c23 ?k23 ?a24 ?l24 ?c24 ?k24 ?a25 ?l25 ?c25 ?k25 ?a26 ?l26 ?c26 ?k26 ?qk_COUNTS ?lk_COUNTS ?ek_COUNTS ?sk_COUNTS ?qk_SIGNS ?lk_SIGNS ?ek_SIGNS ?sk_SIGNS ?g_LETTERS ?g_LONGEST_NAME ?g_SMALL ?g_STROKE ?g_IS ?z_all ?z_bool ?z_enumerate ?z_int ?z_isinstance ?z_len ?z_max ?z_min ?z_range ?z_str ?z_tuple ?z_zip
    (case a0 => k_is)
    (case l0 => k_is)
    (case c0 => k_is)
    (case k0 => k_is)
    (case a1 => k_is)
    (case l1 => k_is)
    (case c1 => k_is)
    (case k1 => k_is)
    (case a2 => k_is)
    (case l2 => k_is)
    (case c2 => k_is)
    (case k2 => k_is)
    (case a3 => k_is)
    (case l3 => k_is)
    (case c3 => k_is)
    (case k3 => k_is)
    (case a4 => k_is)
    (case l4 => k_is)
    (case c4 => k_is)
    (case k4 => k_is)
    (case a5 => k_is)
    (case l5 => k_is)
    (case c5 => k_is)
    (case k5 => k_is)
    (case a6 => k_is)
    (case l6 => k_is)
    (case c6 => k_is)
    (case k6 => k_is)
    (case a7 => k_is)
    (case l7 => k_is)
    (case c7 => k_is)
    (case k7 => k_is)
    (case a8 => k_is)
    (case l8 => k_is)
    (case c8 => k_is)
    (case k8 => k_is)
    (case a9 => k_is)
    (case l9 => k_is)
    (case c9 => k_is)
    (case k9 => k_is)
    (case a10 => k_is)
    (case l10 => k_is)
    (case c10 => k_is)
    (case k10 => k_is)
    (case a11 => k_is)
    (case l11 => k_is)
    (case c11 => k_is)
    (case k11 => k_is)
    (case a12 => k_is)
    (case l12 => k_is)
    (case c12 => k_is)
    (case k12 => k_is)
    (case a13 => k_is)
    (case l13 => k_is)
    (case c13 => k_is)
    (case k13 => k_is)
    (case a14 => k_is)
    (case l14 => k_is)
    (case c14 => k_is)
    (case k14 => k_is)
    (case a15 => k_is)
    (case l15 => k_is)
    (case c15 => k_is)
    (case k15 => k_is)
    (case a17 => k_is)
    (case l17 => k_is)
    (case c17 => k_is)
    (case k17 => k_is)
    (case a18 => k_is)
    (case l18 => k_is)
    (case c18 => k_is)
    (case k18 => k_is)
    (case a19 => k_is)
    (case l19 => k_is)
    (case c19 => k_is)
    (case k19 => k_is)
    (case a20 => k_is)
    (case l20 => k_is)
    (case c20 => k_is)
    (case k20 => k_is)
    (case a21 => k_is)
    (case l21 => k_is)
    (case c21 => k_is)
    (case k21 => k_is)
    (case a22 => k_is)
    (case l22 => k_is)
    (case c22 => k_is)
    (case k22 => k_is)
    (case a23 => k_is)
    (case l23 => k_is)
    (case c23 => k_is)
    (case k23 => k_is)
    (case a24 => k_is)
    (case l24 => k_is)
    (case c24 => k_is)
    (case k24 => k_is)
    (case a25 => k_is)
    (case l25 => k_is)
    (case c25 => k_is)
    (case k25 => k_is)
    (case a26 => k_is)
    (case l26 => k_is)
    (case c26 => k_is)
    (case k26 => k_is)
    (case qk_COUNTS => k_is)
    (case lk_COUNTS => k_is)
    (case ek_COUNTS => exact ⟨L2.ke_key (L2.S_lit (by decide +kernel)), L2.ke_int, L2.ke_key (L2.S_lit (by decide +kernel)), L2.ke_int, L2.ke_key (L2.S_lit (by decide +kernel)), L2.ke_int, L2.ke_key (L2.S_lit (by decide +kernel)), L2.ke_int, trivial⟩)
    (case sk_COUNTS => rfl)
    (case qk_SIGNS => k_is)
    (case lk_SIGNS => k_is)
    (case ek_SIGNS => exact ⟨L2.ke_key (L2.S_lit (by decide +kernel)), L2.ke_str (L2.S_lit (by decide +kernel)), L2.ke_key (L2.S_lit (by decide +kernel)), L2.ke_str (L2.S_lit (by decide +kernel)), trivial⟩)
    (case sk_SIGNS => rfl)
    (case g_LETTERS => k_is)
    (case g_LONGEST_NAME => k_is)
    (case g_SMALL => k_is)
    (case g_STROKE => k_is)
    (case g_IS => k_is)
    (case z_all => k_is)
    (case z_bool => k_is)
    (case z_enumerate => k_is)
    (case z_int => k_is)
    (case z_isinstance => k_is)
    (case z_len => k_is)
    (case z_max => k_is)
    (case z_min => k_is)
    (case z_range => k_is)
    (case z_str => k_is)
    (case z_tuple => k_is)
    (case z_zip => k_is)
