import PyProof.Rows.All
import Wide.All
import OpenK.AllK
import Wide.FinOn
import Lean
import PyProof.EqAt
import PyProof.EqKinds
import PyProof.TupleCall
import PySem.Challenge.RW_mustmeet_k13_drawings_looked_at
set_option Elab.async false
set_option linter.all false
set_option maxRecDepth 100000
namespace L2
open PySem PySem.Spec PyProof.Rows
noncomputable abbrev Key := Sum Int Str
noncomputable def keyIs : Key -> Value -> Bool
  | .inl k, v => Value.isInt k v
  | .inr x, v => Value.isStrOf x v
noncomputable def keyH (w : World) : Key -> Int
  | .inl k => hashInt k
  | .inr x => hashStr w x
theorem keyIs_shape : ∀ {k : Key} {v : Value}, keyIs k v = true -> (∃ i t, k = Sum.inl i /\ v = Value.int i t) \/ (∃ x t, k = Sum.inr x /\ v = Value.str x t)
  | .inl i, v, h => by
    obtain ⟨t, e⟩ := Value.isInt_shape (k := i) (v := v) h
    exact .inl ⟨i, t, rfl, e⟩
  | .inr x, v, h => by
    obtain ⟨t, e⟩ := Value.isStrOf_shape (x := x) (v := v) h
    exact .inr ⟨x, t, rfl, e⟩
theorem key_ll (a b : Int) : decide ((Sum.inl a : Key) = Sum.inl b) = (a == b) := by
  by_cases e : a = b
  · subst e; simp
  · have h : ¬ (Sum.inl a : Key) = Sum.inl b := fun q => e (Sum.inl.inj q)
    rw [decide_eq_false h]
    exact (beq_eq_false_iff_ne.mpr e).symm
theorem key_rr (a b : Str) : decide ((Sum.inr a : Key) = Sum.inr b) = decide (a = b) := by
  by_cases e : a = b
  · subst e; simp
  · have h : ¬ (Sum.inr a : Key) = Sum.inr b := fun q => e (Sum.inr.inj q)
    rw [decide_eq_false h, decide_eq_false e]
theorem key_lr (a : Int) (b : Str) : decide ((Sum.inl a : Key) = Sum.inr b) = false := decide_eq_false (fun q => nomatch q)
theorem key_rl (a : Str) (b : Int) : decide ((Sum.inr a : Key) = Sum.inl b) = false := decide_eq_false (fun q => nomatch q)
noncomputable def mixKind (prog : Program) (w : World) : PySem.KeyKind prog w Key where
  is := keyIs
  hash := keyH w
  inj := fun v a b ha hb => by
    rcases keyIs_shape ha with ⟨i, t, rfl, rfl⟩ | ⟨x, t, rfl, rfl⟩
    · rcases keyIs_shape hb with ⟨j, u, rfl, e⟩ | ⟨y, u, rfl, e⟩
      · injection e with e1 _; rw [e1]
      · exact nomatch e
    · rcases keyIs_shape hb with ⟨j, u, rfl, e⟩ | ⟨y, u, rfl, e⟩
      · exact nomatch e
      · injection e with e1 _; rw [e1]
  byValue := fun k v h => by
    rcases keyIs_shape h with ⟨i, t, rfl, rfl⟩ | ⟨x, t, rfl, rfl⟩ <;> rfl
  pyHash := fun hv h => by
    rcases keyIs_shape hv with ⟨i, t, rfl, rfl⟩ | ⟨x, t, rfl, rfl⟩
    · exact wpAny_pyHash_int h
    · exact wpAny_pyHash_str h
  eqBool := fun hu hv h => by
    rcases keyIs_shape hu with ⟨i, t, rfl, rfl⟩ | ⟨x, t, rfl, rfl⟩
    · rcases keyIs_shape hv with ⟨j, u, rfl, rfl⟩ | ⟨y, u, rfl, rfl⟩
      · rw [key_ll] at h; exact wpAny_eqBool_int h
      · rw [key_lr] at h; exact SeqAt.EqAt.int_str i t y u _ _ _ _ h
    · rcases keyIs_shape hv with ⟨j, u, rfl, rfl⟩ | ⟨y, u, rfl, rfl⟩
      · rw [key_rl] at h; exact SeqAt.EqAt.str_int x t j u _ _ _ _ h
      · rw [key_rr] at h; exact wpAny_eqBool_str h
  «strs» := fun k x t v h => by
    rcases keyIs_shape h with ⟨i, u, rfl, e⟩ | ⟨y, u, rfl, e⟩
    · exact nomatch e
    · injection e with e1 _
      subst e1
      cases v <;> rfl
end L2
namespace L2
open PySem PySem.Spec PyProof.Rows
inductive V where
  | non | bl (b : Bool) | int (i : Int) | str (x : Str) | byt (b : Array UInt8) | flt (b : UInt64) | ref (a : Addr) | ty (n : String)
  deriving DecidableEq
noncomputable def RelV : V -> Value -> Prop
  | .non, u => u = Value.none
  | .bl b, u => u = Value.bool b
  | .int i, u => ∃ t, u = Value.int i t
  | .str x, u => ∃ t, u = Value.str x t
  | .byt b, u => ∃ t, u = Value.bytes b t
  | .flt b, u => ∃ t, u = Value.float b t
  | .ref a, u => u = Value.ref a
  | .ty n, u => u = Value.type n
noncomputable abbrev Vals : List V -> List Value -> Prop := Paired RelV
theorem Vals.length {xs : List V} {us : List Value} (r : Vals xs us) : xs.length = us.length := Paired.length r
theorem Vals.get : ∀ {xs : List V} {us : List Value} {i : Nat} {x : V}, Vals xs us -> xs[i]? = some x -> ∃ u, us[i]? = some u /\ RelV x u
  | _, _, _, _, .nil, e => by simp at e
  | _, _, 0, _, .cons r _, e => by simp at e; subst e; exact ⟨_, rfl, r⟩
  | _, _, i + 1, x, .cons _ t, e => by
    obtain ⟨u, h1, h2⟩ := Vals.get (i := i) (x := x) t (by simpa using e)
    exact ⟨u, by simpa using h1, h2⟩
theorem Vals.set {x : V} {u : Value} (r : RelV x u) : ∀ {xs : List V} {us : List Value} (i : Nat), Vals xs us -> Vals (xs.set i x) (us.set i u)
  | _, _, _, .nil => .nil
  | _, _, 0, .cons _ t => .cons r t
  | _, _, i + 1, .cons q t => .cons q (Vals.set r i t)
theorem Vals.append : ∀ {xs ys : List V} {us ws : List Value}, Vals xs us -> Vals ys ws -> Vals (xs ++ ys) (us ++ ws)
  | _, _, _, _, .nil, s => s
  | _, _, _, _, .cons r t, s => .cons r (Vals.append t s)
theorem Vals.take : ∀ {xs : List V} {us : List Value} (n : Nat), Vals xs us -> Vals (xs.take n) (us.take n)
  | _, _, 0, _ => .nil
  | _, _, _ + 1, .nil => .nil
  | _, _, n + 1, .cons r t => .cons r (Vals.take n t)
theorem Vals.drop : ∀ {xs : List V} {us : List Value} (n : Nat), Vals xs us -> Vals (xs.drop n) (us.drop n)
  | _, _, 0, r => r
  | _, _, _ + 1, .nil => .nil
  | _, _, n + 1, .cons _ t => Vals.drop n t
noncomputable def RelO : Option V -> Option Value -> Prop
  | some v, some u => RelV v u
  | none, none => True
  | _, _ => False
noncomputable def KV {κ : Type} : List (κ × V) -> List (κ × Value) -> Prop := Paired fun (p : κ × V) (q : κ × Value) => p.1 = q.1 /\ RelV p.2 q.2
noncomputable def kV : Key -> V
  | .inl i => .int i
  | .inr x => .str x
inductive HO where
    | lst (xs : List V)
    | tup (xs : List V)
    | dK (kvs : List (Key × V)) | dT (kvs : List (List Key × V))
    | set (S : Int -> Bool) (n : Nat)
    | ins (C dx : Addr) (fs : List (Str × V))
    | own (x : Addr)
    | xd (fs : List (Str × V))
    | met (f x : Addr)
    | rng (lo hi : Int)
    | frz (o : Obj) (u : HO)
    | tbl (ps : Array Value)
    | ext (φ : Heap -> Prop)
noncomputable abbrev Hp := Addr -> Option HO
noncomputable def upd (H : Hp) (a : Addr) (o : HO) : Hp := fun b => if b = a then some o else H b
theorem upd_same {H : Hp} {a : Addr} {o : HO} : upd H a o a = some o := by unfold upd; rw [if_pos rfl]
theorem upd_ne {H : Hp} {a b : Addr} {o : HO} (h : b ≠ a) : upd H a o b = H b := by unfold upd; rw [if_neg h]
theorem upd_upd {H : Hp} {a : Addr} {o u : HO} : upd (upd H a o) a u = upd H a u := by
  funext b; unfold upd; split <;> rfl
theorem ne_of_none {H : Hp} {a b : Addr} {o : HO} (h : H a = some o) (h' : H b = none) : a ≠ b := by
  intro e; subst e; rw [h] at h'; cases h'
section
variable (P : Program) (w : World)
noncomputable def ObjOk (H : Hp) (h : Heap) (a : Addr) : HO -> Prop
  | .lst xs => xs.length <= sizeLine /\ ∃ (its : List Value) (n : Nat), Vals xs its /\ h.get? a = some { cls := .type "list", data := .seq its.toArray n }
  | .tup xs => xs.length <= sizeLine /\ ∃ its : List Value, Vals xs its /\ IsTup h a its.toArray
  | .dK kvs => kvs.length <= sizeLine /\ (a == sysModules) = false /\ ∃ vs, KV kvs vs /\ h.DictOf (mixKind P w) a vs
  | .dT kvs => kvs.length <= sizeLine /\ (a == sysModules) = false /\ ∃ xs : List (List Key × Addr × Value),
      Paired (fun (p : List Key × V) (q : List Key × Addr × Value) => p.1 = q.1 /\ H q.2.1 = some (.tup (p.1.map kV)) /\ RelV p.2 q.2.2) kvs xs /\
      ∃ o es ep, h.get? a = some o /\ o.ExactDict /\ o.data = .dict es ep /\ es.toList = xs.map (entryOfKey (tupleKind (mixKind P w))) /\ (xs.map (·.1)).Nodup
  | .set S n => h.SetOf (intKind P w) a S n
  | .ins C dx fs => H dx = some (.own a) /\ fs.length <= 1000 /\ dx ≠ a /\ h.get? a = some (PySem.W.instObj C dx) /\
      ∃ mA, h.Ns1 dx mA /\ (∀ f, RelO (fs.lookup f) (mA f)) /\ PySem.Within mA (fs.map (·.1))
  | .own _ => ∃ o, h.get? a = some o
  | .xd fs => ∃ mA, h.Ns1 a mA /\ ∀ f, RelO (fs.lookup f) (mA f)
  | .rng lo hi => ∃ t u v, h.get? a = some { cls := .type "range", data := .fields #[.int lo t, .int hi u, .int 1 v] }
  | .frz o u => h.get? a = some o /\ ObjOk H h a u
  | .tbl ps => h.get? a = some { cls := .none, data := .fields ps }
  | .met f x => h.get? a = some (PySem.W.methodObj (.ref f) (.ref x))
  | .ext φ => φ h /\ (∃ o, h.get? a = some o) /\ ∀ h1 h2 : Heap, φ h1 -> (∀ o, h1.get? a = some o -> h2.get? a = some o) -> φ h2
noncomputable def HOk (H : Hp) (h : Heap) : Prop := ∀ a o, H a = some o -> ObjOk P w H h a o
end
section
variable {P : Program} {w : World} {H H' : Hp} {h h' : Heap} {a : Addr} {o : HO}
theorem ObjOk.lt (x : ObjOk P w H h a o) : a < h.objs.size := by
  cases o with
  | lst xs => obtain ⟨_, _, _, _, e⟩ := x; exact Heap.lt_size e
  | tup xs => obtain ⟨_, _, _, p⟩ := x; exact p.lt
  | dK kvs => obtain ⟨_, _, _, _, o, _, _, e, _⟩ := x; exact Heap.lt_size e
  | dT kvs => obtain ⟨_, _, _, _, o, _, _, e, _⟩ := x; exact Heap.lt_size e
  | set S n => obtain ⟨o, _, _, _, e, _⟩ := x; exact Heap.lt_size e
  | ins C dx fs => obtain ⟨_, _, _, e, _⟩ := x; exact Heap.lt_size e
  | own y => obtain ⟨_, e⟩ := x; exact Heap.lt_size e
  | xd fs => obtain ⟨_, ⟨_, _, _, e, _⟩, _⟩ := x; exact Heap.lt_size e
  | rng lo hi => obtain ⟨_, _, _, e⟩ := x; exact Heap.lt_size e
  | frz ob u => obtain ⟨e, _⟩ := x; exact Heap.lt_size e
  | tbl ps => exact Heap.lt_size (show h.get? a = some _ from x)
  | met f y => exact Heap.lt_size (show h.get? a = some _ from x)
  | ext φ => obtain ⟨_, ⟨_, e⟩, _⟩ := x; exact Heap.lt_size e
theorem Paired.mapP {α β : Type} {F G : α -> β -> Prop} : ∀ {l₁ : List α} {l₂ : List β}, Paired F l₁ l₂ -> (∀ a b, F a b -> G a b) -> Paired G l₁ l₂
  | _, _, .nil, _ => .nil
  | _, _, .cons r t, f => .cons (f _ _ r) (Paired.mapP t f)
theorem ObjOk.stay (x : ObjOk P w H h a o) (k : ∀ b u, (b = a \/ H b = some (.own a)) -> h.get? b = some u -> h'.get? b = some u)
    (ho : ∀ b, H b = some (.own a) -> H' b = some (.own a)) (ht : ∀ b xs, H b = some (.tup xs) -> H' b = some (.tup xs)) : ObjOk P w H' h' a o := by
  induction o with
  | lst xs => obtain ⟨z, its, n, r, e⟩ := x; exact ⟨z, its, n, r, k _ _ (.inl rfl) e⟩
  | tup xs => obtain ⟨z, its, r, ob, e, c⟩ := x; exact ⟨z, its, r, ob, k _ _ (.inl rfl) e, c⟩
  | dK kvs => obtain ⟨z, y, vs, r, ob, es, ep, e, c⟩ := x; exact ⟨z, y, vs, r, ob, es, ep, k _ _ (.inl rfl) e, c⟩
  | dT kvs =>
    obtain ⟨z, y, xs, r, ob, es, ep, e, c⟩ := x
    exact ⟨z, y, xs, Paired.mapP r fun p q z => ⟨z.1, ht _ _ z.2.1, z.2.2⟩, ob, es, ep, k _ _ (.inl rfl) e, c⟩
  | set S n => obtain ⟨ob, es, ep, t, e, c⟩ := x; exact ⟨ob, es, ep, t, k _ _ (.inl rfl) e, c⟩
  | ins C dx fs =>
    obtain ⟨d, z, ne, e, mA, ⟨od, es, ep, e2, c⟩, r⟩ := x
    exact ⟨ho _ d, z, ne, k _ _ (.inl rfl) e, mA, ⟨od, es, ep, k _ _ (.inr d) e2, c⟩, r⟩
  | own y => obtain ⟨ob, e⟩ := x; exact ⟨ob, k _ _ (.inl rfl) e⟩
  | xd fs => obtain ⟨mA, ⟨od, es, ep, e, c⟩, r⟩ := x; exact ⟨mA, ⟨od, es, ep, k _ _ (.inl rfl) e, c⟩, r⟩
  | rng lo hi => obtain ⟨t, u, v, e⟩ := x; exact ⟨t, u, v, k _ _ (.inl rfl) e⟩
  | frz ob u ih => obtain ⟨e, q⟩ := x; exact ⟨k _ _ (.inl rfl) e, ih q⟩
  | tbl ps =>
    have e : h.get? a = some { cls := .none, data := .fields ps } := x
    show h'.get? a = some { cls := .none, data := .fields ps }
    exact k a _ (.inl rfl) e
  | met f y =>
    have e : h.get? a = some (PySem.W.methodObj (.ref f) (.ref y)) := x
    show h'.get? a = some (PySem.W.methodObj (.ref f) (.ref y))
    exact k a _ (.inl rfl) e
  | ext φ => obtain ⟨p, ⟨o, e⟩, st⟩ := x; exact ⟨st _ _ p fun o q => k _ _ (.inl rfl) q, ⟨o, k _ _ (.inl rfl) e⟩, st⟩
theorem HOk.lt (x : HOk P w H h) (e : H a = some o) : a < h.objs.size := (x a o e).lt
theorem HOk.fresh (x : HOk P w H h) (e : h.objs.size <= a) : H a = none := by
  cases q : H a with
  | none => rfl
  | some u => exact absurd (Nat.lt_of_lt_of_le (x.lt q) e) (Nat.lt_irrefl _)
theorem HOk.kept (x : HOk P w H h) (k : ∀ b u, h.get? b = some u -> h'.get? b = some u) : HOk P w H h' := fun a o e =>
  (x a o e).stay (fun b u _ q => k b u q) (fun _ q => q) fun _ _ q => q
theorem HOk.laid (x : HOk P w H h) (k : ∀ b u, h.get? b = some u -> h'.get? b = some u) (hp : h.objs.size <= a) (new : ObjOk P w (upd H a o) h' a o) : HOk P w (upd H a o) h' := fun b u e => by
  have hn := x.fresh hp
  by_cases hb : b = a
  · subst hb; rw [upd_same] at e; cases e; exact new
  · rw [upd_ne hb] at e
    exact (x b u e).stay (fun c v _ q => k c v q) (fun c q => by rw [upd_ne (ne_of_none q hn)]; exact q) fun c xs q => by rw [upd_ne (ne_of_none q hn)]; exact q
end
noncomputable def Rd (H : Hp) (a : Addr) (u : HO) : Prop := H a = some u \/ ∃ o, H a = some (.frz o u)
theorem Rd.ok {P : Program} {w : World} {H : Hp} {h : Heap} {a : Addr} {u : HO} (r : Rd H a u) (x : HOk P w H h) : ObjOk P w H h a u := by
  rcases r with r | ⟨o, r⟩
  · exact x a u r
  · obtain ⟨_, q⟩ := x a _ r
    exact q
noncomputable def Mut : Option HO -> Prop
  | some (.lst _) => True
  | some (.dK _) => True
  | some (.dT _) => True
  | some (.set _ _) => True
  | some (.ins _ _ _) => True
  | some (.ext _) => True
  | _ => False
section
variable {P : Program} {w : World} {H : Hp} {h h' : Heap} {x e : Addr} {o' : HO}
theorem HOk.write (ok : HOk P w H h) (mu : Mut (H x)) (he : e = x \/ H e = some (.own x)) (k : ∀ b u, b ≠ e -> h.get? b = some u -> h'.get? b = some u) (heo : ∃ u, h'.get? e = some u)
    (new : ObjOk P w (upd H x o') h' x o') : HOk P w (upd H x o') h' := fun b u q => by
  have nown : ∀ c y, H c = some (.own y) -> c ≠ x := fun c y r z => by subst z; rw [r] at mu; exact mu
  have ntup : ∀ c xs, H c = some (.tup xs) -> c ≠ x := fun c xs r z => by subst z; rw [r] at mu; exact mu
  by_cases hb : b = x
  · subst hb; rw [upd_same] at q; cases q; exact new
  · rw [upd_ne hb] at q
    by_cases hbe : b = e
    · have q' : H b = some (.own x) := by
        rcases he with z | z
        · exact absurd (hbe.trans z) hb
        · rw [hbe]; exact z
      rw [q] at q'; cases q'
      obtain ⟨v, hv⟩ := heo
      exact ⟨v, by rw [hbe]; exact hv⟩
    · refine (ok b u q).stay (fun c v hc r => k c v ?_ r) (fun c r => by rw [upd_ne (nown c b r)]; exact r) fun c xs r => by rw [upd_ne (ntup c xs r)]; exact r
      rcases hc with rfl | hc
      · exact hbe
      · rintro rfl
        rcases he with z | z
        · exact nown c b hc z
        · rw [hc] at z; cases z; exact hb rfl
end
structure Un (fs ex : List Addr) (H H' : Hp) (h h' : Heap) : Prop where
  keep : ∀ b o, h.get? b = some o -> H b = none -> b ∉ fs -> b ∉ ex -> h'.get? b = some o
  slot : ∀ b o, h.get? b = some o -> H b = none -> b ∈ fs -> b ∉ ex -> ∃ sl, h'.get? b = some { o with slots := sl }
  free : ∀ b o, h.get? b = some o -> H b = none -> b ∉ ex -> H' b = none
  there : ∀ b o, h.get? b = some o -> b ∉ ex -> ∃ o', h'.get? b = some o'
  tups : ∀ b xs, H b = some (.tup xs) -> H' b = some (.tup xs)
  frzs : ∀ b o u, H b = some (.frz o u) -> H' b = some (.frz o u)
  tbls : ∀ b ps, H b = some (.tbl ps) -> ∃ more, H' b = some (.tbl (ps ++ more))
section
variable {fs fs' ex ex' : List Addr} {H H1 H2 : Hp} {h h1 h2 h' : Heap} {a x e : Addr} {o : HO}
theorem Un.any (u : Un fs ex H H1 h h1) {b : Addr} {ob : Obj} (q : h.get? b = some ob) (n : H b = none) (hx : b ∉ ex) : ∃ sl, h1.get? b = some { ob with slots := sl } := by
  by_cases hb : b ∈ fs
  · exact u.slot b ob q n hb hx
  · exact ⟨ob.slots, u.keep b ob q n hb hx⟩
theorem Un.kept (k : ∀ b u, h.get? b = some u -> h'.get? b = some u) : Un fs ex H H h h' :=
  ⟨fun b ob q _ _ _ => k b ob q, fun b ob q _ _ _ => ⟨ob.slots, k b ob q⟩, fun _ _ _ n _ => n, fun b ob q _ => ⟨ob, k b ob q⟩, fun _ _ q => q, fun _ _ _ q => q, fun _ ps q => ⟨#[], by rw [q]; simp⟩⟩
theorem Un.refl : Un fs ex H H h h := Un.kept fun _ _ q => q
theorem Un.laid (k : ∀ b u, h.get? b = some u -> h'.get? b = some u) (hp : h.objs.size <= a) (hn : H a = none) : Un fs ex H (upd H a o) h h' where
  keep := fun b u q _ _ _ => k b u q
  slot := fun b u q _ _ _ => ⟨u.slots, k b u q⟩
  free := fun b u q n _ => by rw [upd_ne (Nat.ne_of_lt (Nat.lt_of_lt_of_le (Heap.lt_size q) hp))]; exact n
  there := fun b u q _ => ⟨u, k b u q⟩
  tups := fun b xs q => by rw [upd_ne (ne_of_none q hn)]; exact q
  frzs := fun b u xs q => by rw [upd_ne (ne_of_none q hn)]; exact q
  tbls := fun b ps q => ⟨#[], by rw [upd_ne (ne_of_none q hn), q]; simp⟩
theorem Un.write (mu : Mut (H x)) (he : e = x \/ H e = some (.own x)) (k : ∀ b u, b ≠ e -> h.get? b = some u -> h'.get? b = some u) (heo : ∃ u, h'.get? e = some u) : Un fs ex H (upd H x o) h h' := by
  have hx : ∀ b, H b = none -> b ≠ x := fun b n z => by subst z; rw [n] at mu; exact mu
  have hb : ∀ b, H b = none -> b ≠ e := fun b n z => by
    subst z
    rcases he with r | r
    · exact hx b n r
    · rw [n] at r; cases r
  have hm : ∀ b u, H b = some u -> ¬ Mut (some u) -> b ≠ x := fun b u q nm z => by subst z; rw [q] at mu; exact nm mu
  refine ⟨fun b u q n _ _ => k b u (hb b n) q, fun b u q n _ _ => ⟨u.slots, k b u (hb b n) q⟩, fun b u q n _ => by rw [upd_ne (hx b n)]; exact n, fun b u q _ => ?_,
    fun b xs q => by rw [upd_ne (hm b _ q fun z => z)]; exact q, fun b u xs q => by rw [upd_ne (hm b _ q fun z => z)]; exact q, fun b ps q => ⟨#[], by rw [upd_ne (hm b _ q fun z => z), q]; simp⟩⟩
  by_cases hbe : b = e
  · subst hbe; exact heo
  · exact ⟨u, k b u hbe q⟩
end
noncomputable def trk (h : Heap) (H : Hp) : List Addr := (List.range h.objs.size).filter fun a => (H a).isSome
noncomputable def hidT (h : Heap) (H : Hp) : Heap := PySem.W.hideAll h (trk h H)
theorem hidT_size (h : Heap) (H : Hp) : (hidT h H).objs.size = h.objs.size := PySem.W.hideAll_size _ _
theorem hidT_get {h : Heap} {H : Hp} {b : Addr} {o : Obj} (e : h.get? b = some o) (n : H b = none) : (hidT h H).get? b = some o :=
  PySem.W.hideAll_get _ e fun hm => by
    have q : (H b).isSome = true := (List.mem_filter.mp hm).2
    rw [n] at q; simp at q
theorem of_hidT {h : Heap} {H : Hp} {b : Addr} {o : Obj} (e : (hidT h H).get? b = some o) : h.get? b = some o /\ H b = none := by
  have e' : h.get? b = some o := PySem.W.of_hideAll (trk h H) e
  refine ⟨e', ?_⟩
  cases q : H b with
  | none => rfl
  | some x =>
    have hm : b ∈ trk h H := List.mem_filter.mpr ⟨List.mem_range.mpr (Heap.lt_size e'), by simp [q]⟩
    have z : (hidT h H).get? b = none := PySem.W.hideAll_none (trk h H) hm
    rw [z] at e; cases e
noncomputable def allNews (g h : Heap) (L : Addr) : List (Addr × Obj) := (List.range h.objs.size).filterMap fun a => if a = L \/ (g.get? a).isSome = true then none else (h.get? a).map fun o => (a, o)
noncomputable def rest (g h : Heap) (L d : Addr) : List (Addr × Obj) := (allNews g h L).filter fun p => decide (p.1 ≠ d)
end L2
namespace L2
open PySem PySem.Spec PyProof.Rows
structure Mod (K : PySem.W.Frag) (mg : Str -> Option Value) (base : Heap) : Prop where
  kin : K.In base
  glob : base.Ns mainGlobals mg
  blt : ∃ mb, base.Ns builtinsNs mb /\ ∀ x : Str, x ≠ "__name__" -> mb x = bootBuiltins x
  nolimit : base.NoLimit
structure Cx where
  prog : Program
  w : World
  K : PySem.W.Frag
  mg : Str -> Option Value
  base : Heap
  A : Around
  N : List Str
  s₀ : Shared
  H₀ : Hp
  env : Env
  outer : List Env
  stack : List Env
  ex : List Addr
  fn : Str -> Bool
  calm : Bool
  pn : List (Addr × Obj)
  xe : Value -> Shared -> Prop
noncomputable def frs (l : List Env) : List Addr := l.filterMap (·.frame)
noncomputable abbrev Cx.fs (X : Cx) : List Addr := frs X.outer
noncomputable def Vis (sc : Scope) (x : Str) : Prop := sc.names.lookup x = some .local \/ sc.names.lookup x = some .cell \/ sc.names.lookup x = some .free
noncomputable def Loc (sc : Scope) (x : Str) : Prop := sc.names.lookup x = some .local \/ sc.names.lookup x = some .cell
noncomputable def Look (env : Env) (h : Heap) (m : Str -> Option Value) (x : Str) (u : Value) : Prop :=
  (env.kindOf x = some .local /\ m x = some u) \/ ((env.kindOf x = some .cell \/ env.kindOf x = some .free) /\ ∃ c, env.cells.lookup x = some c /\ h.IsCell c (some u))
structure Cx.Ok (X : Cx) : Prop where
  mod : Mod X.K X.mg X.base
  kind : X.env.scope.kind = .function
  glob : X.env.globals = mainGlobals
  blt : X.env.builtins = builtinsNs
  above : X.s₀.heap.objs.size <= X.env.locals
  inj : ∀ x y c, X.env.cells.lookup x = some c -> X.env.cells.lookup y = some c -> x = y
  has : ∀ x, (X.env.kindOf x = some .cell \/ X.env.kindOf x = some .free) -> ∃ c, X.env.cells.lookup x = some c
  cab : ∀ x c, X.fn x = true -> X.env.cells.lookup x = some c -> X.s₀.heap.objs.size <= c
  hd : X.calm = true -> X.A.handled = none
  frames : X.A.frames = some X.stack
  stk : X.stack = X.outer \/ (X.stack = X.env :: X.outer /\ X.env.frame = some X.env.locals)
  exf : ∀ b ∈ X.ex, b ≠ X.env.locals /\ ∀ x c, X.env.cells.lookup x = some c -> c ≠ b
  bs : ∀ b o, X.base.get? b = some o -> X.s₀.heap.get? b = some o /\ X.H₀ b = none
  bsz : X.base.objs.size <= X.s₀.heap.objs.size
  noex : ∀ b o, X.base.get? b = some o -> b ∉ X.ex
  exfs : ∀ b ∈ X.ex, b ∉ X.fs
  funs : X.s₀.heap.FunFrames X.base X.outer
  frf : ∀ b ∈ X.fs, X.H₀ b = none
structure Inv (X : Cx) (pins : List (Addr × Obj)) (σ : List (Option V)) (H : Hp) (s : Shared) : Prop where
  ok : X.Ok
  os : s.os = X.s₀.os
  bare : AllBare s.gens
  base : Un X.fs X.ex X.H₀ H X.s₀.heap s.heap
  loc : ∃ m, s.heap.Ns X.env.locals m /\ ∀ (i : Nat) (x : Str) (v : V), X.N[i]? = some x -> σ[i]? = some (some v) -> Vis X.env.scope x -> ∃ u, RelV v u /\ Look X.env s.heap m x u
  cell : ∀ x c, X.env.cells.lookup x = some c -> ∃ v, s.heap.IsCell c v
  free : H X.env.locals = none
  freeC : ∀ x c, X.env.cells.lookup x = some c -> H c = none
  pin : ∀ p ∈ X.pn ++ pins, s.heap.get? p.1 = some p.2 /\ H p.1 = none /\ p.1 ≠ X.env.locals /\ p.1 ∉ X.fs /\ ∀ v, p.2.data ≠ .cell v
  hok : HOk X.prog X.w H s.heap
  len : σ.length = X.N.length
section
variable {X : Cx} {pins : List (Addr × Obj)} {σ : List (Option V)} {H H' : Hp} {s : Shared} {h' : Heap}
theorem Cx.Ok.nofr (ok : X.Ok) {b : Addr} {o : Obj} (e : X.base.get? b = some o) : b ∉ X.fs := fun hb => by
  have := (ok.funs.mem hb).1
  rw [e] at this; cases this
theorem Inv.bs (I : Inv X pins σ H s) : ∀ b o, X.base.get? b = some o -> s.heap.get? b = some o /\ H b = none := fun b o e =>
  ⟨I.base.keep b o (I.ok.bs b o e).1 (I.ok.bs b o e).2 (I.ok.nofr e) (I.ok.noex b o e), I.base.free b o (I.ok.bs b o e).1 (I.ok.bs b o e).2 (I.ok.noex b o e)⟩
theorem Inv.bk (I : Inv X pins σ H s) : ∀ b o, X.base.get? b = some o -> s.heap.get? b = some o := fun b o e => (I.bs b o e).1
theorem Inv.mod (I : Inv X pins σ H s) : Mod X.K X.mg X.base := I.ok.mod
theorem Inv.kIn (I : Inv X pins σ H s) : X.K.In s.heap := I.ok.mod.kin.keeps I.bk
theorem Inv.lt (I : Inv X pins σ H s) : X.env.locals < s.heap.objs.size := let ⟨_, hn, _⟩ := I.loc; hn.lt
theorem Inv.sz (I : Inv X pins σ H s) : X.s₀.heap.objs.size <= s.heap.objs.size := Nat.le_trans I.ok.above (Nat.le_of_lt I.lt)
theorem Inv.nofs (I : Inv X pins σ H s) {a : Addr} (h : s.heap.objs.size <= a) : a ∉ X.fs := fun hb => by
  obtain ⟨_, o, ho, _⟩ := I.ok.funs.mem hb
  exact absurd (Nat.lt_of_lt_of_le (Heap.lt_size ho) (Nat.le_trans I.sz h)) (Nat.lt_irrefl _)
theorem Inv.cne (I : Inv X pins σ H s) : ∀ x c, X.env.cells.lookup x = some c -> c ≠ X.env.locals := fun x c e z => by
  obtain ⟨v, o, ho, hd⟩ := I.cell x c e
  obtain ⟨m, ⟨o', es, ep, ho', hd', _⟩, _⟩ := I.loc
  rw [z, ho'] at ho; cases ho; rw [hd'] at hd; cases hd
theorem Inv.funs (I : Inv X pins σ H s) : s.heap.FunFrames X.base X.outer := by
  have all : ∀ (l : List Env), (∀ b ∈ frs l, b ∈ X.fs) -> X.s₀.heap.FunFrames X.base l -> s.heap.FunFrames X.base l := by
    intro l
    induction l with
    | nil => intro _ _; trivial
    | cons env r ih =>
      intro hs hl
      obtain ⟨hk, ⟨L, o, hf, hn, ho, hd⟩, hr⟩ := hl
      have hL : L ∈ X.fs := hs L (by unfold frs; rw [List.filterMap_cons, hf]; exact List.mem_cons_self)
      obtain ⟨sl, e⟩ := I.base.slot L o ho (I.ok.frf L hL) hL fun z => I.ok.exfs L z hL
      exact ⟨hk, ⟨L, _, hf, hn, e, hd⟩, ih (fun b hb => hs b (by unfold frs; rw [List.filterMap_cons, hf]; exact List.mem_cons_of_mem _ hb)) hr⟩
  exact all X.outer (fun _ hb => hb) I.ok.funs
theorem Inv.stack (I : Inv X pins σ H s) : s.heap.FunFrames X.base X.stack := by
  rcases I.ok.stk with e | ⟨e, hf⟩
  · rw [e]; exact I.funs
  · rw [e]
    obtain ⟨m, hn, _⟩ := I.loc
    refine .cons (by rw [I.ok.kind]; decide) hf hn ?_ I.funs
    exact Heap.get?_none_of_le (Nat.le_trans I.ok.bsz I.ok.above)
theorem Inv.stkSub (I : Inv X pins σ H s) : ∀ b ∈ frs X.stack, b ∈ X.env.locals :: X.fs := fun b hb => by
  rcases I.ok.stk with e | ⟨e, hf⟩
  · rw [e] at hb; exact List.mem_cons_of_mem _ hb
  · rw [e] at hb
    unfold frs at hb
    rw [List.filterMap_cons, hf] at hb
    exact hb
theorem Inv.stkFree (I : Inv X pins σ H s) : ∀ b ∈ frs X.stack, H b = none := fun b hb => by
  rcases List.mem_cons.mp (I.stkSub b hb) with e | hb
  · rw [e]; exact I.free
  · obtain ⟨_, o, ho, _⟩ := I.ok.funs.mem hb
    exact I.base.free b o ho (I.ok.frf b hb) fun z => I.ok.exfs b z hb
theorem Inv.step {g' : Array GenState} {t' : Nat} {d' : Drawn} {ch : List Addr} (I : Inv X pins σ H s)
    (hch : ∀ b ∈ ch, (b ∈ X.ex \/ X.s₀.heap.objs.size <= b) /\ b ≠ X.env.locals /\ (∀ x c, X.env.cells.lookup x = some c -> c ≠ b) /\ ∀ p ∈ X.pn ++ pins, p.1 ≠ b)
    (keep : ∀ b o, b ≠ X.env.locals -> b ∉ X.fs -> b ∉ ch -> s.heap.get? b = some o -> H b = none -> h'.get? b = some o)
    (slot : ∀ b o, b ≠ X.env.locals -> b ∈ X.fs -> b ∉ ch -> s.heap.get? b = some o -> H b = none -> ∃ sl, h'.get? b = some { o with slots := sl }) (free : ∀ b o, b ∉ ch -> s.heap.get? b = some o -> H b = none -> H' b = none)
    (there : ∀ b o, b ∉ ch -> s.heap.get? b = some o -> ∃ o', h'.get? b = some o')
    (tups : ∀ b xs, H b = some (.tup xs) -> H' b = some (.tup xs)) (frzs : ∀ b o u, H b = some (.frz o u) -> H' b = some (.frz o u)) (tbls : ∀ b ps, H b = some (.tbl ps) -> ∃ more, H' b = some (.tbl (ps ++ more)))
    (ns : ∀ m, s.heap.Ns X.env.locals m -> h'.Ns X.env.locals m) (hok : HOk X.prog X.w H' h') (hg : AllBare g') :
    Inv X pins σ H' { s with heap := h', gens := g', drawn := d', toks := t' } := by
  have neL : ∀ b o, X.s₀.heap.get? b = some o -> b ≠ X.env.locals := fun b o e => Nat.ne_of_lt (Nat.lt_of_lt_of_le (Heap.lt_size e) I.ok.above)
  have neC : ∀ b o, X.s₀.heap.get? b = some o -> b ∉ X.ex -> b ∉ ch := fun b o e hx hb => by
    rcases (hch b hb).1 with z | z
    · exact hx z
    · exact absurd (Nat.lt_of_lt_of_le (Heap.lt_size e) z) (Nat.lt_irrefl _)
  have cellK : ∀ x c, X.env.cells.lookup x = some c -> ∀ v, s.heap.IsCell c v -> h'.IsCell c v := fun x c e v ⟨o, ho, hd⟩ => by
    have nch : c ∉ ch := fun z => (hch c z).2.2.1 x c e rfl
    by_cases hc : c ∈ X.fs
    · obtain ⟨sl, q⟩ := slot c o (I.cne x c e) hc nch ho (I.freeC x c e)
      exact ⟨_, q, hd⟩
    · exact ⟨o, keep c o (I.cne x c e) hc nch ho (I.freeC x c e), hd⟩
  refine ⟨I.ok, I.os, hg, ⟨fun b o e n hb hx => ?_, fun b o e n hb hx => ?_, fun b o e n hx => ?_, fun b o e hx => ?_, fun b xs e => tups b xs (I.base.tups b xs e), fun b o xs e => frzs b o xs (I.base.frzs b o xs e), fun b ps e => ?_⟩, ?_, fun x c e => ?_, ?_, fun x c e => ?_, fun p hp => ?_, hok, I.len⟩
  · exact keep b o (neL b o e) hb (neC b o e hx) (I.base.keep b o e n hb hx) (I.base.free b o e n hx)
  · obtain ⟨sl, e1⟩ := I.base.slot b o e n hb hx
    obtain ⟨sl', e2⟩ := slot b _ (neL b o e) hb (neC b o e hx) e1 (I.base.free b o e n hx)
    exact ⟨sl', e2⟩
  · obtain ⟨o', e1⟩ := I.base.there b o e hx
    exact free b o' (neC b o e hx) e1 (I.base.free b o e n hx)
  · obtain ⟨o', e1⟩ := I.base.there b o e hx
    exact there b o' (neC b o e hx) e1
  · obtain ⟨m1, e1⟩ := I.base.tbls b ps e
    obtain ⟨m2, e2⟩ := tbls b _ e1
    exact ⟨m1 ++ m2, by rw [e2, Array.append_assoc]⟩
  · obtain ⟨m, hn, hl⟩ := I.loc
    refine ⟨m, ns m hn, fun i x v e1 e2 e3 => ?_⟩
    obtain ⟨u, r, l⟩ := hl i x v e1 e2 e3
    refine ⟨u, r, ?_⟩
    rcases l with l | ⟨k, c, e, z⟩
    · exact .inl l
    · exact .inr ⟨k, c, e, cellK x c e _ z⟩
  · obtain ⟨v, z⟩ := I.cell x c e
    exact ⟨v, cellK x c e v z⟩
  · obtain ⟨m, ⟨o, _, _, ho, _⟩, _⟩ := I.loc
    exact free _ o (fun z => (hch _ z).2.1 rfl) ho I.free
  · obtain ⟨v, o, ho, hd⟩ := I.cell x c e
    exact free c o (fun z => (hch c z).2.2.1 x c e rfl) ho (I.freeC x c e)
  · obtain ⟨e, n, ne, nf, d⟩ := I.pin p hp
    have nch : p.1 ∉ ch := fun z => (hch p.1 z).2.2.2 p hp rfl
    exact ⟨keep p.1 p.2 ne nf nch e n, free p.1 p.2 nch e n, ne, nf, d⟩
theorem Inv.un {t' : Nat} (I : Inv X pins σ H s) (u : Un X.fs [] H H' s.heap h') (hok : HOk X.prog X.w H' h') : Inv X pins σ H' { s with heap := h', toks := t' } := by
  obtain ⟨m, ⟨o, es, ep, ho, r⟩, _⟩ := id I.loc
  obtain ⟨sl, hL⟩ := u.any ho I.free (by simp)
  exact I.step (g' := s.gens) (d' := s.drawn) (ch := []) (fun _ z => nomatch z) (fun b o _ hb _ e n => u.keep b o e n hb (by simp)) (fun b o _ hb _ e n => u.slot b o e n hb (by simp)) (fun b o _ e n => u.free b o e n (by simp)) (fun b o _ e => u.there b o e (by simp)) u.tups u.frzs u.tbls (fun m' hm => by
    obtain ⟨o', es', ep', ho', r'⟩ := hm
    rw [ho] at ho'; cases ho'
    exact ⟨_, es', ep', hL, r'⟩) hok I.bare
theorem Inv.call {g' : Array GenState} {t' : Nat} {d' : Drawn} {ch : List Addr} (I : Inv X pins σ H s) (u : Un (frs X.stack) ch H H' s.heap h') (hok : HOk X.prog X.w H' h') (hg : AllBare g')
    (hch : ∀ b ∈ ch, (b ∈ X.ex \/ X.s₀.heap.objs.size <= b) /\ b ≠ X.env.locals /\ (∀ x c, X.env.cells.lookup x = some c -> c ≠ b) /\ ∀ p ∈ X.pn ++ pins, p.1 ≠ b) :
    Inv X pins σ H' { s with heap := h', gens := g', drawn := d', toks := t' } := by
  obtain ⟨m, ⟨o, es, ep, ho, r⟩, _⟩ := id I.loc
  obtain ⟨sl, hL⟩ := u.any ho I.free fun z => (hch _ z).2.1 rfl
  exact I.step (ch := ch) hch (fun b o hL hb hc e n => u.keep b o e n (fun z => (List.mem_cons.mp (I.stkSub b z)).elim hL hb) hc) (fun b o _ _ hc e n => u.any e n hc) (fun b o hc e n => u.free b o e n hc) (fun b o hc e => u.there b o e hc) u.tups u.frzs u.tbls (fun m' hm => by
    obtain ⟨o', es', ep', ho', r'⟩ := hm
    rw [ho] at ho'; cases ho'
    exact ⟨_, es', ep', hL, r'⟩) hok hg
theorem Inv.turned {t' : Nat} {it : Addr} (I : Inv X pins σ H s) (k : ∀ b o, b ≠ it -> s.heap.get? b = some o -> h'.get? b = some o) (hn : H it = none) (hL : it ≠ X.env.locals)
    (h1 : it ∈ X.ex \/ X.s₀.heap.objs.size <= it) (h2 : ∀ x c, X.env.cells.lookup x = some c -> c ≠ it) (h3 : ∀ p ∈ X.pn ++ pins, p.1 ≠ it) : Inv X pins σ H { s with heap := h', toks := t' } := by
  have nit : ∀ b u, H b = some u -> b ≠ it := fun b u e z => by rw [z, hn] at e; cases e
  refine I.step (g' := s.gens) (d' := s.drawn) (ch := [it]) (fun b hb => ?_) (fun b o _ _ hc e _ => k b o (fun z => hc (by simp [z])) e) (fun b o _ _ hc e _ => ⟨o.slots, k b o (fun z => hc (by simp [z])) e⟩) (fun _ _ _ _ n => n)
    (fun b o hc e => ⟨o, k b o (fun z => hc (by simp [z])) e⟩) (fun _ _ e => e) (fun _ _ _ e => e) (fun b ps e => ⟨#[], by rw [e]; simp⟩) (fun m hm => ?_) (fun b u e => ?_) I.bare
  · have e : b = it := by simpa using hb
    subst e
    exact ⟨h1, hL, h2, h3⟩
  · obtain ⟨o, es, ep, ho, r⟩ := hm
    exact ⟨o, es, ep, k _ o (Ne.symm hL) ho, r⟩
  · refine (I.hok b u e).stay (fun c v hc q => k c v ?_ q) (fun _ q => q) fun _ _ q => q
    rcases hc with z | z
    · rw [z]; exact nit b u e
    · exact nit c _ z
theorem Inv.tok (I : Inv X pins σ H s) (t : Nat) : Inv X pins σ H { s with toks := t } := I.un (h' := s.heap) (t' := t) Un.refl I.hok
theorem Inv.kept {t' : Nat} (I : Inv X pins σ H s) (k : ∀ b u, s.heap.get? b = some u -> h'.get? b = some u) : Inv X pins σ H { s with heap := h', toks := t' } := I.un (Un.kept k) (I.hok.kept k)
theorem Inv.laid {a : Addr} {o : HO} {t' : Nat} (I : Inv X pins σ H s) (k : ∀ b u, s.heap.get? b = some u -> h'.get? b = some u) (hp : s.heap.objs.size <= a) (new : ObjOk X.prog X.w (upd H a o) h' a o) :
    Inv X pins σ (upd H a o) { s with heap := h', toks := t' } := I.un (Un.laid k hp (I.hok.fresh hp)) (I.hok.laid k hp new)
theorem Inv.write {x e : Addr} {o : HO} {t' : Nat} (I : Inv X pins σ H s) (mu : Mut (H x)) (he : e = x \/ H e = some (.own x)) (k : ∀ b u, b ≠ e -> s.heap.get? b = some u -> h'.get? b = some u) (heo : ∃ u, h'.get? e = some u)
    (new : ObjOk X.prog X.w (upd H x o) h' x o) : Inv X pins σ (upd H x o) { s with heap := h', toks := t' } := I.un (Un.write mu he k heo) (I.hok.write mu he k heo new)
theorem Inv.weak {σ' : List (Option V)} (I : Inv X pins σ H s) (hl : σ'.length = σ.length) (w : ∀ (i : Nat) v, σ'[i]? = some (some v) -> σ[i]? = some (some v)) : Inv X pins σ' H s :=
  ⟨I.ok, I.os, I.bare, I.base, let ⟨m, hn, hl'⟩ := I.loc; ⟨m, hn, fun i x v e1 e2 e3 => hl' i x v e1 (w i v e2) e3⟩, I.cell, I.free, I.freeC, I.pin, I.hok, hl.trans I.len⟩
theorem Inv.pins_of {pins' : List (Addr × Obj)} (I : Inv X pins σ H s) (h : ∀ p ∈ pins', s.heap.get? p.1 = some p.2 /\ H p.1 = none /\ p.1 ≠ X.env.locals /\ p.1 ∉ X.fs /\ ∀ v, p.2.data ≠ .cell v) : Inv X pins' σ H s :=
  ⟨I.ok, I.os, I.bare, I.base, I.loc, I.cell, I.free, I.freeC, fun p hp => (List.mem_append.mp hp).elim (fun z => I.pin p (List.mem_append_left _ z)) (h p), I.hok, I.len⟩
theorem nodup_ix {N : List Str} (hN : N.Nodup) {i j : Nat} {x : Str} (a : N[i]? = some x) (b : N[j]? = some x) : i = j := by
  obtain ⟨h1, e1⟩ := List.getElem?_eq_some_iff.mp a
  obtain ⟨h2, e2⟩ := List.getElem?_eq_some_iff.mp b
  exact (List.getElem_inj hN).mp (e1.trans e2.symm)
theorem store_ok2 {M : Model} {A : Around} {E : Value -> Shared -> Prop} {i : Nat} {x : Str} {v : V} {u : Value} {Q : Unit -> Shared -> Prop} (I : Inv X pins σ H s) (hN : X.N.Nodup) (hi : X.N[i]? = some x) (hx : Loc X.env.scope x) (r : RelV v u)
    (h : ∀ s', Inv X pins (σ.set i (some v)) H s' -> (∃ a, Heap.SameBut a s.heap s'.heap /\ (a = X.env.locals \/ X.env.cells.lookup x = some a)) -> Q () s') (hf : X.fn x = true \/ X.env.scope.names.lookup x = some .local := by first | exact .inl rfl | exact .inr rfl | assumption) : wpAny M A (storeName X.env x u) Q E s := by
  obtain ⟨m, hn, hl⟩ := id I.loc
  have hcls : (X.env.scope.kind == .class || (X.env.scope.kind == .module && X.env.locals != X.env.globals)) = false := by rw [I.ok.kind]; rfl
  have hiσ : i < σ.length := by rw [I.len]; exact (List.getElem?_eq_some_iff.mp hi).1
  have cne := I.cne
  have tracked : ∀ {a : Addr} {h' : Heap}, (∃ o, s.heap.get? a = some o /\ H a = none) -> Heap.SameBut a s.heap h' -> HOk X.prog X.w H h' := fun {a h'} ha hs b ob e => by
    obtain ⟨_, _, hfree⟩ := ha
    refine (I.hok b ob e).stay (fun c w' hc q => (hs.2 c ?_).trans q) (fun _ q => q) fun _ _ q => q
    rintro rfl
    rcases hc with rfl | hc
    · rw [hfree] at e; cases e
    · rw [hfree] at hc; cases hc
  rcases hx with hk | hk
  · refine wpAny_storeName_local hk hn (fun h' hn' hs => ?_) hcls
    obtain ⟨oL, _, _, hoL, _⟩ := id hn
    refine h _ ⟨I.ok, I.os, I.bare, ⟨fun b o e n hb hx => ?_, fun b o e n hb hx => ?_, I.base.free, fun b o e hx => ?_, I.base.tups, I.base.frzs, I.base.tbls⟩, ⟨_, hn', fun j y v' e1 e2 e3 => ?_⟩, fun y c e => ?_, I.free, I.freeC, fun p hp => ?_, tracked ⟨oL, hoL, I.free⟩ hs, by simpa using I.len⟩ ⟨_, hs, .inl rfl⟩
    · exact (hs.2 b (Nat.ne_of_lt (Nat.lt_of_lt_of_le (Heap.lt_size e) I.ok.above))).trans (I.base.keep b o e n hb hx)
    · obtain ⟨sl, e1⟩ := I.base.slot b o e n hb hx
      exact ⟨sl, (hs.2 b (Nat.ne_of_lt (Nat.lt_of_lt_of_le (Heap.lt_size e) I.ok.above))).trans e1⟩
    · obtain ⟨o', e1⟩ := I.base.there b o e hx
      exact ⟨o', (hs.2 b (Nat.ne_of_lt (Nat.lt_of_lt_of_le (Heap.lt_size e) I.ok.above))).trans e1⟩
    · by_cases hj : j = i
      · subst hj
        rw [hi] at e1; cases e1
        rw [List.getElem?_set_self hiσ] at e2
        cases e2
        exact ⟨u, r, .inl ⟨hk, by simp⟩⟩
      · rw [List.getElem?_set_ne (Ne.symm hj)] at e2
        obtain ⟨u', r', q⟩ := hl j y v' e1 e2 e3
        refine ⟨u', r', ?_⟩
        rcases q with ⟨k, e⟩ | ⟨k, c, e, z⟩
        · refine .inl ⟨k, ?_⟩
          have : y ≠ x := fun e => hj (nodup_ix hN e1 (e ▸ hi))
          simp [this, e]
        · exact .inr ⟨k, c, e, z.sameBut hs (cne y c e)⟩
    · obtain ⟨w', z⟩ := I.cell y c e
      exact ⟨w', z.sameBut hs (cne y c e)⟩
    · obtain ⟨e, n, ne, nf, d⟩ := I.pin p hp
      exact ⟨(hs.2 p.1 ne).trans e, n, ne, nf, d⟩
  · have hfn : X.fn x = true := by
      rcases hf with z | z
      · exact z
      · rw [z] at hk; cases hk
    obtain ⟨c, hc⟩ := I.ok.has x (.inl hk)
    obtain ⟨w', z⟩ := I.cell x c hc
    refine wpAny_storeName_cell I.ok.kind hk hc z (fun h' hc' hs => ?_)
    obtain ⟨oc, hoc, hocd⟩ := id z
    refine h { s with heap := h' } ⟨I.ok, I.os, I.bare, ⟨fun b o e n hb hx => ?_, fun b o e n hb hx => ?_, I.base.free, fun b o e hx => ?_, I.base.tups, I.base.frzs, I.base.tbls⟩, ⟨m, hn.sameBut hs (Ne.symm (cne x c hc)), fun j y v' e1 e2 e3 => ?_⟩, fun y c' e => ?_, I.free, I.freeC, fun p hp => ?_, tracked ⟨oc, hoc, I.freeC x c hc⟩ hs, by simpa using I.len⟩ ⟨c, hs, .inr hc⟩
    · exact (hs.2 b (Nat.ne_of_lt (Nat.lt_of_lt_of_le (Heap.lt_size e) (I.ok.cab x c hfn hc)))).trans (I.base.keep b o e n hb hx)
    · obtain ⟨sl, e1⟩ := I.base.slot b o e n hb hx
      exact ⟨sl, (hs.2 b (Nat.ne_of_lt (Nat.lt_of_lt_of_le (Heap.lt_size e) (I.ok.cab x c hfn hc)))).trans e1⟩
    · obtain ⟨o', e1⟩ := I.base.there b o e hx
      exact ⟨o', (hs.2 b (Nat.ne_of_lt (Nat.lt_of_lt_of_le (Heap.lt_size e) (I.ok.cab x c hfn hc)))).trans e1⟩
    · by_cases hj : j = i
      · subst hj
        rw [hi] at e1; cases e1
        rw [List.getElem?_set_self hiσ] at e2
        cases e2
        exact ⟨u, r, .inr ⟨.inl hk, c, hc, hc'⟩⟩
      · rw [List.getElem?_set_ne (Ne.symm hj)] at e2
        obtain ⟨u', r', q⟩ := hl j y v' e1 e2 e3
        refine ⟨u', r', ?_⟩
        rcases q with q | ⟨k, c', e, z'⟩
        · exact .inl q
        · refine .inr ⟨k, c', e, z'.sameBut hs ?_⟩
          rintro rfl
          exact hj (nodup_ix hN e1 (I.ok.inj _ _ _ e hc ▸ hi))
    · by_cases hcc : c' = c
      · subst hcc; exact ⟨_, hc'⟩
      · obtain ⟨w2, z2⟩ := I.cell y c' e
        exact ⟨w2, z2.sameBut hs hcc⟩
    · obtain ⟨e, n, ne, nf, d⟩ := I.pin p hp
      refine ⟨(hs.2 p.1 ?_).trans e, n, ne, nf, d⟩
      intro q
      rw [q, hoc] at e
      have q' : oc = p.2 := Option.some.inj e
      exact d w' (by rw [<- q']; exact hocd)
theorem store_ok {M : Model} {A : Around} {E : Value -> Shared -> Prop} {i : Nat} {x : Str} {v : V} {u : Value} {Q : Unit -> Shared -> Prop} (I : Inv X pins σ H s) (hN : X.N.Nodup) (hi : X.N[i]? = some x) (hx : Loc X.env.scope x) (r : RelV v u)
    (h : ∀ s', Inv X pins (σ.set i (some v)) H s' -> Q () s') (hf : X.fn x = true \/ X.env.scope.names.lookup x = some .local := by first | exact .inl rfl | exact .inr rfl | assumption) : wpAny M A (storeName X.env x u) Q E s :=
  store_ok2 I hN hi hx r (fun s' I' _ => h s' I') hf
theorem Inv.call' {s' : Shared} {ch : List Addr} (I : Inv X pins σ H s) (ho : s'.os = s.os) (u : Un (frs X.stack) ch H H' s.heap s'.heap) (hok : HOk X.prog X.w H' s'.heap) (hg : AllBare s'.gens)
    (hch : ∀ b ∈ ch, (b ∈ X.ex \/ X.s₀.heap.objs.size <= b) /\ b ≠ X.env.locals /\ (∀ x c, X.env.cells.lookup x = some c -> c ≠ b) /\ ∀ p ∈ X.pn ++ pins, p.1 ≠ b) : Inv X pins σ H' s' := by
  obtain ⟨h', g', d', t', o'⟩ := s'
  have e : o' = s.os := ho
  subst e
  exact I.call (g' := g') (t' := t') (d' := d') u hok hg hch
end
noncomputable abbrev XK := Value -> Option Addr -> Hp -> Prop
noncomputable abbrev St := List (Option V)
noncomputable abbrev VK := V -> Hp -> Prop
noncomputable abbrev TE := St -> Hp -> VK -> Prop
noncomputable abbrev TT := St -> Hp -> (Bool -> Hp -> Prop) -> Prop
noncomputable abbrev TA := St -> Hp -> (List V -> Hp -> Prop) -> Prop
structure Ends where
  nx : St -> Hp -> Prop
  rt : VK
  bk : St -> Hp -> Prop := fun _ _ => False
  ct : St -> Hp -> Prop := fun _ _ => False
noncomputable abbrev TS := Ends -> St -> Hp -> Prop
noncomputable def EP (X : Cx) (pins : List (Addr × Obj)) (σ : St) (Q : VK) (u : Value) (s' : Shared) : Prop := ∃ v H', Inv X pins σ H' s' /\ RelV v u /\ Q v H'
noncomputable def TP (X : Cx) (pins : List (Addr × Obj)) (σ : St) (Q : Bool -> Hp -> Prop) (b : Bool) (s' : Shared) : Prop := ∃ H', Inv X pins σ H' s' /\ Q b H'
noncomputable def AP (X : Cx) (pins : List (Addr × Obj)) (σ : St) (Q : List V -> Hp -> Prop) (us : List Value) (s' : Shared) : Prop := ∃ vs H', Inv X pins σ H' s' /\ Vals vs us /\ Q vs H'
noncomputable def SP (X : Cx) (pins : List (Addr × Obj)) (D : Ends) (f : Flow) (s' : Shared) : Prop :=
  match f with
  | .next => ∃ σ' H', Inv X pins σ' H' s' /\ D.nx σ' H'
  | .brk => ∃ σ' H', Inv X pins σ' H' s' /\ D.bk σ' H'
  | .cont => ∃ σ' H', Inv X pins σ' H' s' /\ D.ct σ' H'
  | .ret u => ∃ v σ' H', Inv X pins σ' H' s' /\ RelV v u /\ D.rt v H'
noncomputable def PE (X : Cx) (e : Expr) (t : TE) : Prop :=
  ∀ (pins : List (Addr × Obj)) (s : Shared) (σ : St) (H : Hp) (Q : VK), Inv X pins σ H s -> t σ H Q -> wpAny (model X.prog X.w) X.A (eval e X.env) (EP X pins σ Q) X.xe s
noncomputable def PT (X : Cx) (e : Expr) (t : TT) : Prop :=
  ∀ (pins : List (Addr × Obj)) (s : Shared) (σ : St) (H : Hp) (Q : Bool -> Hp -> Prop), Inv X pins σ H s -> t σ H Q -> wpAny (model X.prog X.w) X.A (isTrue e X.env (eval e X.env)) (TP X pins σ Q) X.xe s
noncomputable def PW (X : Cx) (e : Expr) (t : TT) : Prop :=
  ∀ (whole : Sem Value) (pins : List (Addr × Obj)) (s : Shared) (σ : St) (H : Hp) (Q : Bool -> Hp -> Prop), Inv X pins σ H s -> t σ H Q -> wpAny (model X.prog X.w) X.A (isTrue e X.env whole) (TP X pins σ Q) X.xe s
theorem PW.pt {X : Cx} {e : Expr} {t : TT} (h : PW X e t) : PT X e t := h _
noncomputable def PA (X : Cx) (es : List Expr) (t : TA) : Prop :=
  ∀ (pos : Pos) (pins : List (Addr × Obj)) (s : Shared) (σ : St) (H : Hp) (Q : List V -> Hp -> Prop), Inv X pins σ H s -> t σ H Q -> wpAny (model X.prog X.w) X.A (spliced (backTo pos (starEach es X.env))) (AP X pins σ Q) X.xe s
noncomputable def PS (X : Cx) (st : Stmt) (t : TS) : Prop :=
  ∀ (pins : List (Addr × Obj)) (s : Shared) (σ : St) (H : Hp) (D : Ends), Inv X pins σ H s -> t D σ H -> wpAny (model X.prog X.w) X.A (exec st X.env) (SP X pins D) X.xe s
noncomputable def PSs (X : Cx) (st : List Stmt) (t : TS) : Prop :=
  ∀ (pins : List (Addr × Obj)) (s : Shared) (σ : St) (H : Hp) (D : Ends), Inv X pins σ H s -> t D σ H -> wpAny (model X.prog X.w) X.A (execs st X.env) (SP X pins D) X.xe s
theorem thn {α : Type} {t : Sem α} {Q Q' : α -> Shared -> Prop} {M : Model} {A : Around} {E : Value -> Shared -> Prop} {s : Shared} (h : wpAny M A t Q E s) (hQ : ∀ a s, Q a s -> Q' a s) : wpAny M A t Q' E s := wpAny_mono h hQ fun _ _ x => x
end L2
namespace L2
open PySem PySem.Spec PyProof.Rows
section
variable {X : Cx}
noncomputable def tVar (i : Nat) : TE := fun σ H Q => ∃ v, σ[i]? = some (some v) /\ Q v H
noncomputable def tC (v : V) : TE := fun _ H Q => Q v H
theorem pe_var {i : Nat} {x : Str} {pos : Pos} (hN : X.N[i]? = some x) (hv : Vis X.env.scope x) (hd : (x == ("__debug__" : Str)) = false := by decide) (hcd : (x == ("__classdict__" : Str)) = false := by decide) : PE X (.Name x pos) (tVar i) := by
  intro pins s σ H Q I h
  obtain ⟨v, e, h⟩ := h
  obtain ⟨m, hn, hl⟩ := I.loc
  obtain ⟨u, r, l⟩ := hl i x v hN e hv
  have fin : EP X pins σ Q u s := ⟨v, H, I, r, h⟩
  rcases l with ⟨hk, hm⟩ | ⟨hk, c, hc, hcell⟩
  · exact wpAny_Name (wpAny_loadName_local I.ok.kind hk hn hm fin) hd
  · rcases hk with hk | hk
    · exact wpAny_Name (wpAny_loadName_cell I.ok.kind hk hc hcell fin) hd
    · exact wpAny_Name (wpAny_loadName_free I.ok.kind hk hc hcell fin hcd) hd
theorem pe_int {i j pos} : PE X (.Constant (.int i) j pos) (tC (.int i)) := fun _ _ _ H _ I h => wpAny_Constant_int ⟨.int i, H, I.tok _, ⟨_, rfl⟩, h⟩
theorem pe_bl {b j pos} : PE X (.Constant (.bool b) j pos) (tC (.bl b)) := fun _ _ _ H _ I h => Constant_bool ⟨.bl b, H, I, rfl, h⟩
theorem pe_non {j pos} : PE X (.Constant .none j pos) (tC .non) := fun _ _ _ H _ I h => Constant_none ⟨.non, H, I, rfl, h⟩
theorem pe_str {x j pos} : PE X (.Constant (.str x) j pos) (tC (.str x)) := fun _ _ _ H _ I h => Calls.Constant_str ⟨.str x, H, I.tok _, ⟨_, rfl⟩, h⟩
noncomputable def Gl (X : Cx) (x : Str) : Prop := X.env.kindOf x = some .globalImplicit
theorem ld_glob {E : Value -> Shared -> Prop} {pins : List (Addr × Obj)} {s : Shared} {σ : St} {H : Hp} {x : Str} {u : Value} {pos : Pos} {Q : Value -> Shared -> Prop} (I : Inv X pins σ H s) (hg : Gl X x) (hm : X.mg x = some u) (h : Q u s)
    (hd : (x == ("__debug__" : Str)) = false := by decide) : wpAny (model X.prog X.w) X.A (eval (.Name x pos) X.env) Q E s :=
  Calls.Name_function_global I.ok.kind hg (Calls.loadGlobal_global (by rw [I.ok.glob]; exact I.mod.glob.keeps I.bk) hm h) hd
theorem ld_blt {E : Value -> Shared -> Prop} {pins : List (Addr × Obj)} {s : Shared} {σ : St} {H : Hp} {x : Str} {u : Value} {pos : Pos} {Q : Value -> Shared -> Prop} (I : Inv X pins σ H s) (hg : Gl X x) (hm : X.mg x = none) (hv : bootBuiltins x = some u) (h : Q u s)
    (hn : x ≠ "__name__" := by decide) (hd : (x == ("__debug__" : Str)) = false := by decide) : wpAny (model X.prog X.w) X.A (eval (.Name x pos) X.env) Q E s := by
  obtain ⟨mb, h1, h2⟩ := I.mod.blt
  exact Calls.Name_function_global I.ok.kind hg (Calls.loadGlobal_builtin (by rw [I.ok.glob]; exact I.mod.glob.keeps I.bk) hm (by rw [I.ok.blt]; exact h1.keeps I.bk) ((h2 x hn).trans hv) h) hd
theorem pe_glob {x : Str} {v : V} {u : Value} {pos : Pos} (hg : Gl X x) (hm : X.mg x = some u) (r : RelV v u) (hd : (x == ("__debug__" : Str)) = false := by decide) : PE X (.Name x pos) (tC v) :=
  fun _ _ _ H _ I h => ld_glob I hg hm ⟨v, H, I, r, h⟩ hd
theorem pe_bltn {x : Str} {v : V} {u : Value} {pos : Pos} (hg : Gl X x) (hm : X.mg x = none) (hv : bootBuiltins x = some u) (r : RelV v u) (hn : x ≠ "__name__" := by decide) (hd : (x == ("__debug__" : Str)) = false := by decide) : PE X (.Name x pos) (tC v) :=
  fun _ _ _ H _ I h => ld_blt I hg hm hv ⟨v, H, I, r, h⟩ hn hd
variable {a b : Expr} {ta tb : TE} {pos : Pos}
noncomputable def tB (t : TE) : TT := fun σ H Q => t σ H fun x H1 => ∃ c, x = .bl c /\ Q c H1
theorem pt_val {e : Expr} {t : TE} (h : PE X e t) (he : ∀ whole, isTrue e X.env whole = (do let v <- whole; standAt e.pos; holding [v] (truthy v)) := by intro _; rfl) : PT X e (tB t) := by
  intro pins s σ H Q I hw
  refine isTrue_plain (thn (h pins s σ H _ I hw) fun v s1 ⟨x, H1, I1, r1, q1⟩ => ?_) (he _)
  obtain ⟨d, rfl, q⟩ := q1
  cases r1
  exact wpAny_truthy_bool ⟨H1, I1, q⟩
variable {tA tB' : TT} {rest : List Expr}
noncomputable def tAnd (t u : TT) : TT := fun σ H Q => t σ H fun c H1 => if c = true then u σ H1 Q else Q false H1
noncomputable def tOr (t u : TT) : TT := fun σ H Q => t σ H fun c H1 => if c = true then Q true H1 else u σ H1 Q
noncomputable def tNot (t : TT) : TT := fun σ H Q => t σ H fun c H1 => Q (!c) H1
theorem pw_and1 (ha : PT X a tA) : PW X (.BoolOp .And [a] pos) tA := by
  intro wh pins s σ H Q I h
  refine isTrue_and (thn (ha pins s σ H Q I h) fun c s1 e => ?_)
  cases c with
  | true => exact isTrue_and_nil e
  | false => exact e
theorem pw_or1 (ha : PT X a tA) : PW X (.BoolOp .Or [a] pos) tA := by
  intro wh pins s σ H Q I h
  refine isTrue_or (thn (ha pins s σ H Q I h) fun c s1 e => ?_)
  cases c with
  | false => exact isTrue_or_nil e
  | true => exact e
theorem pw_and (ha : PT X a tA) (hb : PW X (.BoolOp .And (b :: rest) pos) tB') : PW X (.BoolOp .And (a :: b :: rest) pos) (tAnd tA tB') := by
  intro wh pins s σ H Q I h
  refine isTrue_and (thn (ha pins s σ H _ I h) fun c s1 ⟨H1, I1, q1⟩ => ?_)
  cases c with
  | true => exact hb wh pins s1 σ H1 Q I1 q1
  | false => exact ⟨H1, I1, q1⟩
theorem pw_or (ha : PT X a tA) (hb : PW X (.BoolOp .Or (b :: rest) pos) tB') : PW X (.BoolOp .Or (a :: b :: rest) pos) (tOr tA tB') := by
  intro wh pins s σ H Q I h
  refine isTrue_or (thn (ha pins s σ H _ I h) fun c s1 ⟨H1, I1, q1⟩ => ?_)
  cases c with
  | true => exact ⟨H1, I1, q1⟩
  | false => exact hb wh pins s1 σ H1 Q I1 q1
theorem pt_not (ha : PT X a tA) : PT X (.UnaryOp .Not a pos) (tNot tA) := by
  intro pins s σ H Q I h
  exact isTrue_not (ha pins s σ H (fun c H1 => Q (!c) H1) I h)
noncomputable def tAndV (ta tb : TE) : TE := fun σ H Q => ta σ H fun x H1 => ∃ c, x = .bl c /\ if c = true then tb σ H1 Q else Q (.bl false) H1
theorem pe_one {op} {t : TE} (h : PE X a t) : PE X (.BoolOp op [a] pos) t := fun pins s σ H Q I hw => BoolOp_one (h pins s σ H Q I hw)
theorem pe_and (ha : PE X a ta) (hb : PE X (.BoolOp .And (b :: rest) pos) tb) : PE X (.BoolOp .And (a :: b :: rest) pos) (tAndV ta tb) := by
  intro pins s σ H Q I h
  refine BoolOp_and (thn (ha pins s σ H _ I h) fun v s1 ⟨x, H1, I1, r1, q1⟩ => ?_)
  obtain ⟨c, rfl, q1⟩ := q1
  cases r1
  refine wpAny_truthy_bool ?_
  cases c with
  | true => exact hb pins s1 σ H1 Q I1 q1
  | false => exact ⟨.bl false, H1, I1, rfl, q1⟩
end
end L2
namespace L2
open PySem PySem.Spec PyProof.Rows
noncomputable def SqL (K : PySem.W.Frag) (H : Hp) (a : Addr) (xs : List V) : Prop :=
  Rd H a (.lst xs) \/
    ∃ (o : Obj) (its : Array Value) (n : Nat), K.lookup a = some o /\ o.cls = .type "list" /\ o.dict = none /\ o.data = .seq its n /\ its.size <= sizeLine /\ Vals xs its.toList
noncomputable def SqT (K : PySem.W.Frag) (H : Hp) (a : Addr) (xs : List V) : Prop :=
  Rd H a (.tup xs) \/
    ∃ (o : Obj) (its : Array Value) (n : Nat), K.lookup a = some o /\ o.cls = .type "tuple" /\ o.data = .seq its n /\ its.size <= sizeLine /\ Vals xs its.toList
noncomputable def absV : Value -> Option V
  | .none => some .non
  | .bool b => some (.bl b)
  | .int i _ => some (.int i)
  | .str x _ => some (.str x)
  | .bytes b _ => some (.byt b)
  | .float b _ => some (.flt b)
  | .ref a => some (.ref a)
  | .type n => some (.ty n)
  | _ => none
theorem RelV.abs {x : V} {u : Value} (r : RelV x u) : absV u = some x := by
  cases x with
  | non => cases r; rfl
  | bl _ => cases r; rfl
  | int _ => obtain ⟨t, rfl⟩ := r; rfl
  | str _ => obtain ⟨t, rfl⟩ := r; rfl
  | byt _ => obtain ⟨t, rfl⟩ := r; rfl
  | flt _ => obtain ⟨t, rfl⟩ := r; rfl
  | ref _ => cases r; rfl
  | ty _ => cases r; rfl
theorem RelV.inj {x y : V} {u : Value} (r : RelV x u) (q : RelV y u) : x = y := Option.some.inj (r.abs.symm.trans q.abs)
theorem Vals.inj : ∀ {xs ys : List V} {us : List Value}, Vals xs us -> Vals ys us -> xs = ys
  | _, _, _, .nil, .nil => rfl
  | _, _, _, .cons r t, .cons r' t' => by rw [r.inj r', Vals.inj t t']
section
variable {X : Cx} {pins : List (Addr × Obj)} {σ : St} {H : Hp} {s : Shared} {a : Addr} {xs ys : List V}
theorem SqL.of {K : PySem.W.Frag} (h : H a = some (.lst xs)) : SqL K H a xs := .inl (.inl h)
theorem SqT.of {K : PySem.W.Frag} (h : H a = some (.tup xs)) : SqT K H a xs := .inl (.inl h)
theorem Inv.list (I : Inv X pins σ H s) (h : SqL X.K H a xs) : ∃ its : List Value, Vals xs its /\ PlainL s.heap a its.toArray /\ xs.length <= sizeLine := by
  rcases h with h | ⟨o, its, n, hk, hc, hd, hs, hz, r⟩
  · obtain ⟨z, its, n, r, e⟩ := h.ok I.hok
    exact ⟨its, r, ⟨_, n, e, rfl, rfl, rfl⟩, z⟩
  · refine ⟨its.toList, r, ⟨o, n, I.kIn a o hk, hc, hd, by simpa using hs⟩, ?_⟩
    have e := r.length
    simp only [Array.length_toList] at e
    omega
theorem Inv.tuple (I : Inv X pins σ H s) (h : SqT X.K H a xs) : ∃ its : List Value, Vals xs its /\ IsTup s.heap a its.toArray /\ xs.length <= sizeLine := by
  rcases h with h | ⟨o, its, n, hk, hc, hs, hz, r⟩
  · obtain ⟨z, its, r, p⟩ := h.ok I.hok
    exact ⟨its, r, p, z⟩
  · refine ⟨its.toList, r, ⟨o, I.kIn a o hk, hc, n, by simpa using hs⟩, ?_⟩
    have e := r.length
    simp only [Array.length_toList] at e
    omega
theorem Inv.list_inj (I : Inv X pins σ H s) (h : SqL X.K H a xs) (h' : SqL X.K H a ys) : xs = ys := by
  obtain ⟨its, r, ⟨o, n, e, _, _, d⟩, _⟩ := I.list h
  obtain ⟨its', r', ⟨o', n', e', _, _, d'⟩, _⟩ := I.list h'
  rw [e] at e'; cases e'
  rw [d] at d'
  injection d' with d1 _
  have : its = its' := by simpa using congrArg Array.toList d1
  subst this
  exact r.inj r'
theorem Inv.tuple_inj (I : Inv X pins σ H s) (h : SqT X.K H a xs) (h' : SqT X.K H a ys) : xs = ys := by
  obtain ⟨its, r, ⟨o, e, _, n, d⟩, _⟩ := I.tuple h
  obtain ⟨its', r', ⟨o', e', _, n', d'⟩, _⟩ := I.tuple h'
  rw [e] at e'; cases e'
  rw [d] at d'
  injection d' with d1 _
  have : its = its' := by simpa using congrArg Array.toList d1
  subst this
  exact r.inj r'
end
noncomputable abbrev Cx.wish (X : Cx) (E : Value -> Shared -> Prop) : Cx := { X with xe := E }
noncomputable abbrev Cx.nox (X : Cx) : Cx := X.wish fun _ _ => False
theorem Cx.Ok.wish {X : Cx} (ok : X.Ok) (E : Value -> Shared -> Prop) : (X.wish E).Ok :=
  ⟨ok.mod, ok.kind, ok.glob, ok.blt, ok.above, ok.inj, ok.has, ok.cab, ok.hd, ok.frames, ok.stk, ok.exf, ok.bs, ok.bsz, ok.noex, ok.exfs, ok.funs, ok.frf⟩
theorem Cx.Ok.unwish {X : Cx} {E : Value -> Shared -> Prop} (ok : (X.wish E).Ok) : X.Ok :=
  ⟨ok.mod, ok.kind, ok.glob, ok.blt, ok.above, ok.inj, ok.has, ok.cab, ok.hd, ok.frames, ok.stk, ok.exf, ok.bs, ok.bsz, ok.noex, ok.exfs, ok.funs, ok.frf⟩
section
variable {X : Cx} {pins : List (Addr × Obj)} {σ : St} {H : Hp} {s : Shared} {E : Value -> Shared -> Prop}
theorem Inv.wish (I : Inv X pins σ H s) (E : Value -> Shared -> Prop) : Inv (X.wish E) pins σ H s := ⟨I.ok.wish E, I.os, I.bare, I.base, I.loc, I.cell, I.free, I.freeC, I.pin, I.hok, I.len⟩
theorem Inv.unwish (I : Inv (X.wish E) pins σ H s) : Inv X pins σ H s := ⟨I.ok.unwish, I.os, I.bare, I.base, I.loc, I.cell, I.free, I.freeC, I.pin, I.hok, I.len⟩
theorem SP.unwish {D : Ends} {f : Flow} {s' : Shared} (h : SP (X.wish E) pins D f s') : SP X pins D f s' := by
  cases f with
  | next => obtain ⟨σ', H', I, q⟩ := h; exact ⟨σ', H', I.unwish, q⟩
  | brk => obtain ⟨σ', H', I, q⟩ := h; exact ⟨σ', H', I.unwish, q⟩
  | cont => obtain ⟨σ', H', I, q⟩ := h; exact ⟨σ', H', I.unwish, q⟩
  | ret u => obtain ⟨v, σ', H', I, r, q⟩ := h; exact ⟨v, σ', H', I.unwish, r, q⟩
theorem PSs.nox {st : List Stmt} {t : TS} (h : PSs X.nox st t) : PSs X st t := fun pins s σ H D I hw =>
  wpAny_mono (h pins s σ H D (I.wish _) hw) (fun _ _ q => q.unwish) fun _ _ z => False.elim z
end
section
variable {X : Cx} {st : Stmt} {rest : List Stmt} {t u : TS} {e : Expr} {te : TE} {pos : Pos}
noncomputable def tNext : TS := fun D σ H => D.nx σ H
noncomputable def tSeq (t u : TS) : TS := fun D σ H => t { D with nx := u D } σ H
theorem pss_nil : PSs X [] tNext := fun _ _ σ H _ I h => wpAny_execs_nil ⟨σ, H, I, h⟩
theorem pss_cons (h1 : PS X st t) (h2 : PSs X rest u) : PSs X (st :: rest) (tSeq t u) := by
  intro pins s σ H D I h
  refine wpAny_execs_cons (thn (h1 pins s σ H { D with nx := u D } I h) fun f s1 q => ?_)
  cases f with
  | next =>
    obtain ⟨σ', H', I', q⟩ := q
    exact h2 pins s1 σ' H' D I' q
  | ret v => exact q
  | brk => exact q
  | cont => exact q
theorem pss_one (h1 : PS X st t) : PSs X [st] t := by
  intro pins s σ H D I h
  refine wpAny_execs_cons (thn (h1 pins s σ H D I h) fun f s1 q => ?_)
  cases f with
  | next => exact wpAny_execs_nil q
  | ret v => exact q
  | brk => exact q
  | cont => exact q
theorem Inv.quiet {pins : List (Addr × Obj)} {σ : St} {H : Hp} {s : Shared} (I : Inv X pins σ H s) : interactive X.env = false := by simp [interactive, I.ok.kind]
noncomputable def tDrop (te : TE) : TS := fun D σ H => te σ H fun _ H1 => D.nx σ H1
theorem ps_expr (he : PE X e te) (hs : swapsWith e none pos.line X.env = pure false := by rfl) : PS X (.Expr e pos) (tDrop te) := by
  intro pins s σ H D I h
  exact wpAny_Expr_any (thn (he pins s σ H _ I h) fun v s1 ⟨x, H1, I1, r1, q1⟩ => ⟨σ, H1, I1, q1⟩) I.quiet hs
noncomputable def tRet (te : TE) : TS := fun D σ H => te σ H D.rt
theorem ps_ret (he : PE X e te) : PS X (.Return (some e) pos) (tRet te) := by
  intro pins s σ H D I h
  exact wpAny_Return_some (thn (he pins s σ H _ I h) fun v s1 ⟨x, H1, I1, r1, q1⟩ => ⟨x, σ, H1, I1, r1, q1⟩)
noncomputable def tIfS (c : TT) (t u : TS) : TS := fun D σ H => c σ H fun b H1 => if b = true then t D σ H1 else u D σ H1
theorem ps_if {c : Expr} {a b : List Stmt} {tc : TT} (hc : PT X c tc) (ha : PSs X a t) (hb : PSs X b u) : PS X (.If c a b pos) (tIfS tc t u) := by
  intro pins s σ H D I h
  refine wpAny_If (thn (hc pins s σ H _ I h) fun d s1 ⟨H1, I1, q1⟩ => ?_)
  cases d with
  | true => exact ha pins s1 σ H1 D I1 q1
  | false => exact hb pins s1 σ H1 D I1 q1
end
noncomputable abbrev TG := V -> St -> Hp -> (St -> Hp -> Prop) -> Prop
noncomputable abbrev TGs := List V -> St -> Hp -> (St -> Hp -> Prop) -> Prop
noncomputable def PG (X : Cx) (target : Expr) (t : TG) : Prop :=
  ∀ (pins : List (Addr × Obj)) (s : Shared) (σ : St) (H : Hp) (v : V) (u : Value) (Q : St -> Hp -> Prop), Inv X pins σ H s -> RelV v u -> t v σ H Q ->
    wpAny (model X.prog X.w) X.A (assign target X.env u) (fun _ s' => ∃ σ' H', Inv X pins σ' H' s' /\ Q σ' H') X.xe s
noncomputable def PGs (X : Cx) (ts : List Expr) (t : TGs) : Prop :=
  ∀ (pins : List (Addr × Obj)) (s : Shared) (σ : St) (H : Hp) (vs : List V) (us : List Value) (Q : St -> Hp -> Prop), Inv X pins σ H s -> Vals vs us -> t vs σ H Q ->
    wpAny (model X.prog X.w) X.A (assignInOrder ((assignEach ts X.env).map (·.2)) us) (fun _ s' => ∃ σ' H', Inv X pins σ' H' s' /\ Q σ' H') X.xe s
noncomputable abbrev TSet := V -> V -> V -> Hp -> (Hp -> Prop) -> Prop
noncomputable def PSet (X : Cx) (t : TSet) : Prop :=
  ∀ (pins : List (Addr × Obj)) (s : Shared) (σ : St) (H : Hp) (o i v : V) (ov iv u : Value) (Q : Hp -> Prop), Inv X pins σ H s -> RelV o ov -> RelV i iv -> RelV v u -> t o i v H Q ->
    wpAny (model X.prog X.w) X.A (setItem ov iv u) (fun _ s' => ∃ H', Inv X pins σ H' s' /\ Q H') X.xe s
section
variable {X : Cx} {pos : Pos}
noncomputable def gName (i : Nat) : TG := fun v σ H Q => Q (σ.set i (some v)) H
theorem pg_name {i : Nat} {x : Str} (hN : X.N.Nodup) (hi : X.N[i]? = some x) (hx : Loc X.env.scope x) (hf : X.fn x = true \/ X.env.scope.names.lookup x = some .local := by first | exact .inl rfl | exact .inr rfl | assumption) : PG X (.Name x pos) (gName i) := by
  intro pins s σ H v u Q I r h
  exact wpAny_assign_Name (store_ok I hN hi hx r (fun s' I' => ⟨_, H, I', h⟩) hf)
noncomputable def gNil : TGs := fun vs σ H Q => vs = [] /\ Q σ H
noncomputable def gCons (t : TG) (u : TGs) : TGs := fun vs σ H Q => ∃ v r, vs = v :: r /\ t v σ H fun σ' H' => u r σ' H' Q
theorem pgs_nil : PGs X [] gNil := by
  intro pins s σ H vs us Q I r h
  obtain ⟨e, h⟩ := h
  subst e
  cases r
  exact assignInOrder_nil ⟨σ, H, I, h⟩
theorem pgs_cons {e : Expr} {es : List Expr} {t : TG} {u : TGs} (h1 : PG X e t) (h2 : PGs X es u)
    (hs : (assignEach (e :: es) X.env).map (·.2) = assign e X.env :: (assignEach es X.env).map (·.2) := by rfl) : PGs X (e :: es) (gCons t u) := by
  intro pins s σ H vs us Q I r h
  obtain ⟨v, vr, e1, h⟩ := h
  subst e1
  cases r with
  | cons r rr =>
    rw [hs]
    refine assignInOrder_cons (thn (h1 pins s σ H _ _ _ I r h) fun _ s1 ⟨σ1, H1, I1, q1⟩ => ?_)
    exact h2 pins s1 σ1 H1 _ _ Q I1 rr q1
noncomputable def gTup (K : PySem.W.Frag) (n : Nat) (t : TGs) : TG := fun v σ H Q => ∃ a xs, v = .ref a /\ SqT K H a xs /\ xs.length = n /\ t xs σ H Q
theorem pg_tup {es : List Expr} {k : Nat} {t : TGs} {n : Nat} (hc : X.calm = true) (h : PGs X es t)
    (hn : (assignEach es X.env).length = n := by rfl) (hst : (assignEach es X.env).findIdx? (·.1) = none := by rfl) : PG X (.Tuple es k pos) (gTup X.K n t) := by
  intro pins s σ H v u Q I r hw
  obtain ⟨a, xs, e1, hq, hl, hw⟩ := hw
  subst e1
  cases r
  obtain ⟨its, rv, ht, hz⟩ := I.tuple hq
  refine assign_Tuple_tuple (I.ok.hd hc) ht (by simp [hn, <- hl, rv.length]) hst fun h' hx => ?_
  have I1 : Inv X pins σ H { s with heap := h' } := I.kept (t' := s.toks) fun b o e => hx b o (Nat.ne_of_lt (Heap.lt_size e)) e
  exact h pins _ σ H xs _ Q I1 (by simpa using rv) hw
noncomputable def gSub (to ti : TE) (t : TSet) : TG := fun v σ H Q => to σ H fun o H1 => ti σ H1 fun i H2 => t o i v H2 fun H3 => Q σ H3
theorem pg_sub {o i : Expr} {to ti : TE} {t : TSet} (ho : PE X o to) (hi : PE X i ti) (hs : PSet X t)
    (ha : ∀ v, assign (.Subscript o i pos) X.env v = (do
      let ov <- holding [v] (eval o X.env)
      let iv <- holding [v, ov] (eval i X.env)
      standAt pos
      holding [v, ov, iv] (setItem ov iv v)
      release [v, ov, iv] []) := by intro _; rfl) : PG X (.Subscript o i pos) (gSub to ti t) := by
  intro pins s σ H v u Q I r h
  rw [ha]
  refine wpAny_bind (wpAny_holding (thn (ho pins s σ H _ I h) fun ov s1 ⟨x, H1, I1, r1, q1⟩ => ?_))
  refine wpAny_bind (wpAny_holding (thn (hi pins s1 σ H1 _ I1 q1) fun iv s2 ⟨y, H2, I2, r2, q2⟩ => ?_))
  refine wpAny_bind (wpAny_standAt (wpAny_bind (wpAny_holding (thn (hs pins s2 σ H2 x y v ov iv u _ I2 r1 r2 r q2) fun _ s3 ⟨H3, I3, q3⟩ => ?_))))
  exact wpAny_release ⟨σ, H3, I3, q3⟩
noncomputable def tAsg (te : TE) (g : TG) : TS := fun D σ H => te σ H fun x H1 => g x σ H1 D.nx
theorem ps_asg {tg e : Expr} {te : TE} {g : TG} (he : PE X e te) (hg : PG X tg g) (hs : swapsWithSole [tg] e pos.line X.env = pure false := by rfl) (hw : swappedStores [tg] e X.env = pure none := by rfl)
    (h1 : (assignEach [tg] X.env).map (·.2) = [assign tg X.env] := by rfl) : PS X (.Assign [tg] e pos) (tAsg te g) := by
  intro pins s σ H D I h
  refine wpAny_Assign_stores (thn (he pins s σ H _ I h) fun v s1 ⟨x, H1, I1, r1, q1⟩ => ?_) hs hw
  rw [h1]
  exact thn (hg pins s1 σ H1 x v _ I1 r1 q1) fun _ s2 q => q
theorem ps_set {i : Nat} {x : Str} {e : Expr} {te : TE} {pos' : Pos} (hN : X.N.Nodup) (hi : X.N[i]? = some x) (hx : Loc X.env.scope x) (he : PE X e te) (hs : swapsWith e (some (.Name x pos')) pos.line X.env = pure false := by rfl) (hf : X.fn x = true \/ X.env.scope.names.lookup x = some .local := by first | exact .inl rfl | exact .inr rfl | assumption) :
    PS X (.Assign [.Name x pos'] e pos) (tAsg te (gName i)) := by
  intro pins s σ H D I h
  refine wpAny_Assign_Name (thn (he pins s σ H _ I h) fun v s1 ⟨y, H1, I1, r1, q1⟩ => ?_) hs
  exact store_ok I1 hN hi hx r1 (fun s2 I2 => ⟨_, H1, I2, q1⟩) hf
end
section
variable {X : Cx} {pos : Pos}
end
structure It where
  go : Nat -> Hp -> Prop
  yld : Nat -> Hp -> V -> Hp -> Prop
  stop : Nat -> Hp -> Prop
noncomputable def FpOk (X : Cx) (pins : List (Addr × Obj)) (H : Hp) (b : Addr) : Prop :=
  H b = none /\ b ≠ X.env.locals /\ b ∉ X.fs /\ (b ∈ X.ex \/ X.s₀.heap.objs.size <= b) /\ (∀ x c, X.env.cells.lookup x = some c -> c ≠ b) /\ ∀ p ∈ X.pn ++ pins, p.1 ≠ b
theorem Inv.fpOk {X : Cx} {pins : List (Addr × Obj)} {σ : St} {H H' : Hp} {s : Shared} {b : Addr} (I : Inv X pins σ H s) (hb : s.heap.objs.size <= b) (hn : H' b = none) : FpOk X pins H' b := by
  refine ⟨hn, Nat.ne_of_gt (Nat.lt_of_lt_of_le I.lt hb), I.nofs hb, .inr (Nat.le_trans I.sz hb), fun x c e z => ?_, fun p hp z => ?_⟩
  · obtain ⟨v, q⟩ := I.cell x c e
    exact absurd (Nat.lt_of_lt_of_le q.lt (by rw [z]; exact hb)) (Nat.lt_irrefl _)
  · exact absurd (Nat.lt_of_lt_of_le (Heap.lt_size (I.pin p hp).1) (by rw [z]; exact hb)) (Nat.lt_irrefl _)
structure Turn (P : Program) (w : World) (K : PySem.W.Frag) (tg : Expr) (J : It) (fp : List Addr) (it : Addr) (tn : Nat -> Heap -> Prop) : Prop where
  mem : it ∈ fp
  obj : ∀ i h, tn i h -> ∀ b ∈ fp, ∃ o, h.get? b = some o /\ ∀ v, o.data ≠ .cell v
  keep : ∀ i h h', tn i h -> (∀ b ∈ fp, ∀ o, h.get? b = some o -> h'.get? b = some o) -> tn i h'
  item : ∀ (X : Cx), X.prog = P -> X.w = w -> X.K = K -> X.calm = true -> ∀ (i : Nat) (pins : List (Addr × Obj)) (s : Shared) (σ : St) (H : Hp) (E : Value -> Shared -> Prop), Inv X pins σ H s -> (∀ b ∈ fp, FpOk X pins H b) -> tn i s.heap -> J.go i H ->
    wpAny (model P w) X.A (pyNext (.ref it)) (fun r s1 => ∃ u, r = some u /\
      wpAny (model P w) X.A (letOwnedTupleGo tg (.ref it) u) (fun _ s2 => ∃ x H', Inv X pins σ H' s2 /\ RelV x u /\ J.yld i H x H' /\ tn (i + 1) s2.heap /\ ∀ b ∈ fp, H' b = none) E s1) E s
  done : ∀ (X : Cx), X.prog = P -> X.w = w -> X.K = K -> X.calm = true -> ∀ (i : Nat) (pins : List (Addr × Obj)) (s : Shared) (σ : St) (H : Hp) (E : Value -> Shared -> Prop), Inv X pins σ H s -> (∀ b ∈ fp, FpOk X pins H b) -> tn i s.heap -> J.stop i H ->
    wpAny (model P w) X.A (pyNext (.ref it)) (fun r s1 => r = none /\ Inv X pins σ H s1) E s
  self : ∀ (A : Around) (i : Nat) (s : Shared) (Q : Value -> Shared -> Prop) (E : Value -> Shared -> Prop), tn i s.heap -> Q (.ref it) s -> wpAny (model P w) A (pyIter (.ref it)) Q E s
noncomputable abbrev TI := St -> Hp -> (It -> Hp -> Prop) -> Prop
noncomputable def PIE (X : Cx) (pins : List (Addr × Obj)) (σ : St) (tg : Expr) (R : It -> Hp -> Prop) (itv : Value) (s2 : Shared) : Prop :=
  ∃ (it : Addr) (fp : List Addr) (tn : Nat -> Heap -> Prop) (J : It) (H' : Hp), itv = .ref it /\ Inv X pins σ H' s2 /\ Turn X.prog X.w X.K tg J fp it tn /\ tn 0 s2.heap /\ (∀ b ∈ fp, FpOk X pins H' b) /\ R J H'
noncomputable def PI (X : Cx) (tg iter : Expr) (wi : TI) : Prop :=
  ∀ (pins : List (Addr × Obj)) (s : Shared) (σ : St) (H : Hp) (R : It -> Hp -> Prop), Inv X pins σ H s -> wi σ H R ->
    wpAny (model X.prog X.w) X.A (eval iter X.env) (fun v s1 => wpAny (model X.prog X.w) X.A (pyIter v) (PIE X pins σ tg R) X.xe s1) X.xe s
theorem go_of {M : Model} {A : Around} {E : Value -> Shared -> Prop} {s : Shared} {tg : Expr} {it : Addr} {u : Value} {o : Obj} {n : String} {vs : Array Value} {Q : Unit -> Shared -> Prop} (ho : s.heap.get? it = some o) (hc : o.cls = .type n) (hd : o.data = .fields vs)
    (hn : ["enumerate", "zip", "dict_itemiterator", "dict_reverseitemiterator", "odict_iterator", "itertools.zip_longest", "itertools.pairwise"].contains n = false) (hQ : Q () s) : wpAny M A (letOwnedTupleGo tg (.ref it) u) Q E s := by
  unfold letOwnedTupleGo
  cases tg <;> first
    | exact wpAny_pure hQ
    | (cases u <;> first
        | exact wpAny_pure hQ
        | (refine wpAny_bind (wpAny_load ho ?_)
           rw [hc, hd]
           show wpAny M A (if (["enumerate", "zip", "dict_itemiterator", "dict_reverseitemiterator", "odict_iterator", "itertools.zip_longest", "itertools.pairwise"].contains n && vs[0]? == some (rawInt _)) = true then _ else _) Q E s
           rw [if_neg (by intro h; rw [hn, Bool.false_and] at h; cases h)]
           exact wpAny_pure hQ))
noncomputable def Itl (K : PySem.W.Frag) (a : Addr) : It :=
  ⟨fun i H => ∃ xs x, SqL K H a xs /\ xs[i]? = some x, fun i H x H' => H' = H /\ ∀ xs, SqL K H a xs -> xs[i]? = some x, fun i H => ∃ xs, SqL K H a xs /\ xs.length <= i⟩
noncomputable def Itt (K : PySem.W.Frag) (a : Addr) : It :=
  ⟨fun i H => ∃ xs x, SqT K H a xs /\ xs[i]? = some x, fun i H x H' => H' = H /\ ∀ xs, SqT K H a xs -> xs[i]? = some x, fun i H => ∃ xs, SqT K H a xs /\ xs.length <= i⟩
noncomputable def Itr (lo : Int) (n : Nat) : It := ⟨fun i _ => i < n, fun i H x H' => H' = H /\ x = .int (lo + i), fun i _ => n <= i⟩
theorem turn_list {P : Program} {w : World} {K : PySem.W.Frag} {tg : Expr} (a it : Addr) : Turn P w K tg (Itl K a) [it] it (fun i h => h.IsListIter it a i) where
  mem := by simp
  obj := fun i h st b hb => by
    have e : b = it := by simpa using hb
    subst e
    obtain ⟨o, e, c, d⟩ := st
    exact ⟨o, e, fun v z => by rw [d] at z; cases z⟩
  keep := fun i h h' st k => st.at fun o e => k it (by simp) o e
  item := by
    intro X hP hw hK hc i pins s σ H E I hf st hg
    subst hP hw hK
    obtain ⟨xs, x, hq, hx⟩ := hg
    obtain ⟨its, rv, p, hz⟩ := I.list hq
    obtain ⟨u, hu, ru⟩ := rv.get hx
    obtain ⟨f0, f1, f2, f3, f4, f5⟩ := hf it (by simp)
    refine wpAny_pyNext_list_item st p.isList (x := u) (by simpa using hu) fun h' st' sb => ?_
    have I1 : Inv X pins σ H { s with heap := h' } := I.turned (t' := s.toks) (fun b o hb e => (sb.2 b hb).trans e) f0 f1 f3 f4 f5
    obtain ⟨o, e, c, d⟩ := id st'
    exact ⟨u, rfl, go_of (s := { s with heap := h' }) e c d (by decide) ⟨x, H, I1, ru, ⟨rfl, fun ys hy => by rw [I.list_inj hy hq]; exact hx⟩, st', fun b hb => (hf b hb).1⟩⟩
  done := by
    intro X hP hw hK hc i pins s σ H E I hf st hg
    subst hP hw hK
    obtain ⟨xs, hq, hx⟩ := hg
    obtain ⟨its, rv, p, hz⟩ := I.list hq
    obtain ⟨f0, f1, f2, f3, f4, f5⟩ := hf it (by simp)
    have hl := rv.length
    exact wpAny_pyNext_list_end (I.ok.hd hc) st p.isList (by simp; omega) fun h' eb => ⟨rfl, I.turned (t' := s.toks) (fun b o hb e => eb b o hb e) f0 f1 f3 f4 f5⟩
  self := fun _ _ _ _ _ st h => wpAny_pyIter_listiter st h
theorem turn_tuple {P : Program} {w : World} {K : PySem.W.Frag} {tg : Expr} (a it : Addr) : Turn P w K tg (Itt K a) [it] it (fun i h => h.IsTupleIter it a i) where
  mem := by simp
  obj := fun i h st b hb => by
    have e : b = it := by simpa using hb
    subst e
    obtain ⟨o, e, c, d⟩ := st
    exact ⟨o, e, fun v z => by rw [d] at z; cases z⟩
  keep := fun i h h' st k => st.at fun o e => k it (by simp) o e
  item := by
    intro X hP hw hK hc i pins s σ H E I hf st hg
    subst hP hw hK
    obtain ⟨xs, x, hq, hx⟩ := hg
    obtain ⟨its, rv, p, hz⟩ := I.tuple hq
    obtain ⟨u, hu, ru⟩ := rv.get hx
    obtain ⟨f0, f1, f2, f3, f4, f5⟩ := hf it (by simp)
    refine wpAny_pyNext_tuple_item st (show s.heap.IsTuple a its.toArray from p) (x := u) (by simpa using hu) fun h' st' sb => ?_
    have I1 : Inv X pins σ H { s with heap := h' } := I.turned (t' := s.toks) (fun b o hb e => (sb.2 b hb).trans e) f0 f1 f3 f4 f5
    obtain ⟨o, e, c, d⟩ := id st'
    exact ⟨u, rfl, go_of (s := { s with heap := h' }) e c d (by decide) ⟨x, H, I1, ru, ⟨rfl, fun ys hy => by rw [I.tuple_inj hy hq]; exact hx⟩, st', fun b hb => (hf b hb).1⟩⟩
  done := by
    intro X hP hw hK hc i pins s σ H E I hf st hg
    subst hP hw hK
    obtain ⟨xs, hq, hx⟩ := hg
    obtain ⟨its, rv, p, hz⟩ := I.tuple hq
    obtain ⟨f0, f1, f2, f3, f4, f5⟩ := hf it (by simp)
    have hl := rv.length
    exact wpAny_pyNext_tuple_end (I.ok.hd hc) st (show s.heap.IsTuple a its.toArray from p) (by simp; omega) fun h' eb => ⟨rfl, I.turned (t' := s.toks) (fun b o hb e => eb b o hb e) f0 f1 f3 f4 f5⟩
  self := fun _ _ _ _ _ st h => wpAny_pyIter_tupleiter st h
theorem turn_range {P : Program} {w : World} {K : PySem.W.Frag} {tg : Expr} (it : Addr) (lo : Int) (n : Nat) : Turn P w K tg (Itr lo n) [it] it (fun i h => IsRangeIter h it (lo + (i : Nat) * 1) ((n : Int) - (i : Nat)) 1) where
  mem := by simp
  obj := fun i h st b hb => by
    have e : b = it := by simpa using hb
    subst e
    exact ⟨_, st, fun v z => by
      have z' : Data.fields _ = Data.cell v := z
      cases z'⟩
  keep := fun i h h' st k => k it (by simp) _ st
  item := by
    intro X hP hw hK hc i pins s σ H E I hf st hg
    subst hP hw hK
    obtain ⟨f0, f1, f2, f3, f4, f5⟩ := hf it (by simp)
    have W := Walks.range (prog := X.prog) (w := X.w) (I.ok.hd hc) it lo 1 n
    refine W.item i s _ _ hg st fun v h' tk hv st' kk => ?_
    obtain ⟨t, rfl⟩ := hv
    have I1 : Inv X pins σ H { s with heap := h', toks := tk } := I.turned (fun b o hb e => kk b o (by simpa using hb) e) f0 f1 f3 f4 f5
    refine ⟨_, rfl, go_of (s := { s with heap := h', toks := tk }) (n := "range_iterator") st' rfl rfl (by decide) ⟨.int (lo + i), H, I1, ⟨t, ?_⟩, ⟨rfl, rfl⟩, st', fun b hb => (hf b hb).1⟩⟩
    rw [Int.mul_one]
  done := by
    intro X hP hw hK hc i pins s σ H E I hf st hg
    subst hP hw hK
    obtain ⟨f0, f1, f2, f3, f4, f5⟩ := hf it (by simp)
    exact wpAny_pyNext_range_end (I.ok.hd hc) st (by have : n <= i := hg; omega) fun h' eb => ⟨rfl, I.turned (t' := s.toks) (fun b o hb e => eb b o hb e) f0 f1 f3 f4 f5⟩
  self := fun _ _ _ _ _ st h => wpAny_pyIter_rangeiter st h
end L2
namespace L2
open PySem PySem.Spec PyProof.Rows
section
variable {X : Cx} {tg : Expr}
noncomputable def iList (K : PySem.W.Frag) (tl : TE) : TI := fun σ H R => tl σ H fun x H1 => ∃ a, x = .ref a /\ (∃ xs, SqL K H1 a xs) /\ R (Itl K a) H1
noncomputable def iTup (K : PySem.W.Frag) (tl : TE) : TI := fun σ H R => tl σ H fun x H1 => ∃ a, x = .ref a /\ (∃ xs, SqT K H1 a xs) /\ R (Itt K a) H1
theorem pi_list {l : Expr} {tl : TE} (hl : PE X l tl) : PI X tg l (iList X.K tl) := by
  intro pins s σ H R I h
  refine thn (hl pins s σ H _ I h) fun v s1 ⟨x, H1, I1, r1, q1⟩ => ?_
  obtain ⟨a, e, ⟨xs, hq⟩, q⟩ := q1
  subst e
  cases r1
  obtain ⟨its, rv, p, hz⟩ := I1.list hq
  refine wpAny_pyIter_list p.isList ?_
  refine ⟨s1.heap.objs.size, [s1.heap.objs.size], _, _, H1, rfl, I1.kept (t' := s1.toks) fun b o e => Heap.get?_push_of_some _ e, turn_list a _, ⟨_, Heap.get?_push_size _ rfl, rfl, rfl⟩, fun b hb => ?_, q⟩
  have e : b = s1.heap.objs.size := by simpa using hb
  subst e
  exact I1.fpOk (Nat.le_refl _) (I1.hok.fresh (Nat.le_refl _))
theorem pi_tup {l : Expr} {tl : TE} (hl : PE X l tl) : PI X tg l (iTup X.K tl) := by
  intro pins s σ H R I h
  refine thn (hl pins s σ H _ I h) fun v s1 ⟨x, H1, I1, r1, q1⟩ => ?_
  obtain ⟨a, e, ⟨xs, hq⟩, q⟩ := q1
  subst e
  cases r1
  obtain ⟨its, rv, p, hz⟩ := I1.tuple hq
  refine wpAny_pyIter_tuple (show s1.heap.IsTuple a its.toArray from p) ?_
  refine ⟨s1.heap.objs.size, [s1.heap.objs.size], _, _, H1, rfl, I1.kept (t' := s1.toks) fun b o e => Heap.get?_push_of_some _ e, turn_tuple a _, ⟨_, Heap.get?_push_size _ rfl, rfl, rfl⟩, fun b hb => ?_, q⟩
  have e : b = s1.heap.objs.size := by simpa using hb
  subst e
  exact I1.fpOk (Nat.le_refl _) (I1.hok.fresh (Nat.le_refl _))
theorem range_it {pins : List (Addr × Obj)} {σ : St} {H : Hp} {s : Shared} {R : It -> Hp -> Prop} {E : Value -> Shared -> Prop} {lo hi : Int} {t u v : Tok} {tk : Nat} (I : Inv X pins σ H s) (h1 : -(2 ^ 62) <= lo) (h2 : lo < 2 ^ 62) (h3 : -(2 ^ 62) <= hi) (h4 : hi < 2 ^ 62)
    (q : R (Itr lo (hi - lo).toNat) H) : wpAny (model X.prog X.w) X.A (pyIter (.ref s.heap.objs.size)) (PIE X pins σ tg R) E { s with heap := s.heap.push { cls := .type "range", data := .fields #[.int lo t, .int hi u, .int 1 v] }, toks := tk } := by
  refine wpAny_pyIter_range (IsRange.new ..) (small_one h1 h2 h3 h4) ?_
  have I1 : Inv X pins σ H { s with heap := s.heap.push { cls := .type "range", data := .fields #[.int lo t, .int hi u, .int 1 v] }, toks := tk } := I.kept fun b o e => Heap.get?_push_of_some _ e
  refine ⟨(s.heap.push { cls := .type "range", data := .fields #[.int lo t, .int hi u, .int 1 v] }).objs.size, [(s.heap.push { cls := .type "range", data := .fields #[.int lo t, .int hi u, .int 1 v] }).objs.size], _, _, H, rfl,
    I1.kept (t' := tk) fun b o e => Heap.get?_push_of_some _ e, turn_range _ lo (hi - lo).toNat, ?_, fun b hb => ?_, q⟩
  · have e1 : lo + ((0 : Nat) : Int) * 1 = lo := by simp
    have e2 : (((hi - lo).toNat : Nat) : Int) - ((0 : Nat) : Int) = Builtin.Range.rangeSize lo hi 1 := by rw [rangeSize_one]; split <;> omega
    show IsRangeIter _ _ (lo + ((0 : Nat) : Int) * 1) ((((hi - lo).toNat : Nat) : Int) - ((0 : Nat) : Int)) 1
    rw [e1, e2]
    exact Heap.get?_push_size _ rfl
  · have e : b = (s.heap.push { cls := .type "range", data := .fields #[.int lo t, .int hi u, .int 1 v] }).objs.size := by simpa using hb
    subst e
    exact I1.fpOk (Nat.le_refl _) (I1.hok.fresh (Nat.le_refl _))
noncomputable def iRng1 (ta : TA) : TI := fun σ H R => ta σ H fun vs H1 => ∃ j : Int, vs = [.int j] /\ -(2 ^ 62) <= j /\ j < 2 ^ 62 /\ R (Itr 0 j.toNat) H1
noncomputable def iRng2 (ta : TA) : TI := fun σ H R => ta σ H fun vs H1 => ∃ i j : Int, vs = [.int i, .int j] /\ (-(2 ^ 62) <= i /\ i < 2 ^ 62 /\ -(2 ^ 62) <= j /\ j < 2 ^ 62) /\ R (Itr i (j - i).toNat) H1
theorem pi_range1 {a : Expr} {ta : TA} {p pos : Pos} (hg : Gl X "range") (hm : X.mg "range" = none) (ha : PA X [a] ta) (hs : starEach [a] X.env = [(false, eval a X.env)] := by rfl) : PI X tg (.Call (.Name "range" p) [a] [] pos) (iRng1 ta) := by
  intro pins s σ H R I h
  refine Call_ (ld_blt I hg hm boot_range (PyProof.Rows.callWith_type1 (thn (ha pos pins s σ H _ I h) fun us s1 ⟨vs, H1, I1, r1, q1⟩ => ?_) hs rfl))
  obtain ⟨j, e, q1, q2, q⟩ := q1
  subst e
  cases r1 with
  | cons r rr =>
    cases rr
    obtain ⟨t, rfl⟩ := r
    exact call_range_1 (range_it I1 (by omega) (by omega) q1 q2 (by simpa using q))
theorem pi_range2 {a b : Expr} {ta : TA} {p pos : Pos} (hg : Gl X "range") (hm : X.mg "range" = none) (ha : PA X [a, b] ta) (hs : starEach [a, b] X.env = [(false, eval a X.env), (false, eval b X.env)] := by rfl) (hs2 : starEach [b] X.env = [(false, eval b X.env)] := by rfl) :
    PI X tg (.Call (.Name "range" p) [a, b] [] pos) (iRng2 ta) := by
  intro pins s σ H R I h
  refine Call_ (ld_blt I hg hm boot_range (PyProof.Rows.callWith_type1 (thn (ha pos pins s σ H _ I h) fun us s1 ⟨vs, H1, I1, r1, q1⟩ => ?_) (by rw [hs, hs2]) (by rw [hs2]; rfl)))
  obtain ⟨i, j, e, ⟨q1, q2, q3, q4⟩, q⟩ := q1
  subst e
  cases r1 with
  | cons r rr =>
    cases rr with
    | cons r' rr =>
      cases rr
      obtain ⟨t, rfl⟩ := r
      obtain ⟨t', rfl⟩ := r'
      exact call_range_2 (range_it I1 q1 q2 q3 q4 q)
noncomputable def tFor (wi : TI) (g : TG) (tb : TS) : TS := fun D σ H => wi σ H fun J H1 => ∃ W : Nat -> Nat -> St -> Hp -> Prop, (∃ m, W 0 m σ H1) /\ ∀ i m σ H, W i m σ H ->
  (J.stop i H /\ D.nx σ H) \/ (J.go i H /\ ∃ N : St -> Hp -> Prop, (∀ σ' H', N σ' H' -> ∃ m', m' < m /\ W (i + 1) m' σ' H') /\ ∀ x H', J.yld i H x H' -> g x σ H' fun σ2 H2 => tb { D with nx := N, ct := N, bk := D.nx } σ2 H2)
noncomputable def pinsAt (fp : List Addr) (h : Heap) : List (Addr × Obj) := fp.filterMap fun b => (h.get? b).map fun o => (b, o)
theorem mem_pinsAt {fp : List Addr} {h : Heap} {b : Addr} {o : Obj} (hb : b ∈ fp) (e : h.get? b = some o) : (b, o) ∈ pinsAt fp h := List.mem_filterMap.mpr ⟨b, hb, by rw [e]; rfl⟩
theorem of_pinsAt {fp : List Addr} {h : Heap} {p : Addr × Obj} (hp : p ∈ pinsAt fp h) : p.1 ∈ fp /\ h.get? p.1 = some p.2 := by
  obtain ⟨b, hb, e⟩ := List.mem_filterMap.mp hp
  cases q : h.get? b with
  | none => rw [q] at e; cases e
  | some o =>
    rw [q] at e
    have e' : (b, o) = p := Option.some.inj e
    subst e'
    exact ⟨hb, q⟩
theorem Inv.pinned {pins : List (Addr × Obj)} {σ : St} {H : Hp} {s : Shared} {fp : List Addr} (I : Inv X pins σ H s) (hf : ∀ b ∈ fp, FpOk X pins H b) (ho : ∀ b ∈ fp, ∃ o, s.heap.get? b = some o /\ ∀ v, o.data ≠ .cell v) : Inv X (pins ++ pinsAt fp s.heap) σ H s :=
  I.pins_of fun p hp => (List.mem_append.mp hp).elim (fun z => I.pin p (List.mem_append_right _ z)) fun z => by
    obtain ⟨hb, e⟩ := of_pinsAt z
    obtain ⟨f0, f1, f2, _⟩ := hf p.1 hb
    obtain ⟨o, e', d⟩ := ho p.1 hb
    rw [e] at e'; cases e'
    exact ⟨e, f0, f1, f2, d⟩
theorem Inv.unpinned {pins pl : List (Addr × Obj)} {σ : St} {H : Hp} {s : Shared} (I : Inv X (pins ++ pl) σ H s) : Inv X pins σ H s := I.pins_of fun p hp => I.pin p (List.mem_append_right _ (List.mem_append_left _ hp))
theorem ps_for {iter : Expr} {body : List Stmt} {wi : TI} {g : TG} {tb : TS} {pos : Pos} (hp : PassesOwn (model X.prog X.w) X.A X.env X.xe) (hc : X.calm = true) (hi : PI X tg iter wi) (hg : PG X tg g) (hb : PSs X body tb)
    (hs : ∀ x, foldedSetIterable iter X.env x = pure x := by intro _; rfl) : PS X (.For tg iter body [] pos) (tFor wi g tb) := by
  intro pins s σ H D I h
  refine wpAny_For (thn (hi pins s σ H _ I h) fun v s1 h1 => thn h1 fun itv s2 h2 => ?_) hs
  obtain ⟨it, fp, tn, J, H2, e, I2, T, st2, f2, W, ⟨m0, w0⟩, turn⟩ := h2
  subst e
  -- what stays true of the iterator's objects through the loop
  have stat : ∀ {H' : Hp}, (∀ b ∈ fp, H' b = none) -> ∀ b ∈ fp, FpOk X pins H' b := fun hn b hb => ⟨hn b hb, (f2 b hb).2⟩
  refine codeAny_forLoop_any (fun n s' => ∃ i σ' H', Inv X pins σ' H' s' /\ tn i s'.heap /\ (∀ b ∈ fp, H' b = none) /\ W i n σ' H') ?_ m0 ⟨0, σ, H2, I2, st2, fun b hb => (f2 b hb).1, w0⟩
  rintro n s3 ⟨i, σ3, H3, I3, st3, fr3, w3⟩
  rcases turn i n σ3 H3 w3 with ⟨stop, qn⟩ | ⟨go, N, hN, step⟩
  · refine wpAny_passesOwn hp (thn (T.done X rfl rfl rfl hc i pins s3 σ3 H3 X.xe I3 (stat fr3) st3 stop) fun r s4 ⟨hr, I4⟩ => ?_)
    subst hr
    exact wpAny_execs_nil ⟨σ3, H3, I4, qn⟩
  · refine wpAny_passesOwn hp (thn (T.item X rfl rfl rfl hc i pins s3 σ3 H3 X.xe I3 (stat fr3) st3 go) fun r s4 ⟨u, hr, h4⟩ => ?_)
    subst hr
    refine wpAny_passesOwn hp (thn h4 fun _ s5 ⟨x, H5, I5, r5, y5, st5, fr5⟩ => ?_)
    have I5' := I5.pinned (stat fr5) (T.obj _ _ st5)
    refine wpAny_passesOwn hp (thn (hg _ s5 σ3 H5 x u _ I5' r5 (step x H5 y5)) fun _ s6 ⟨σ6, H6, I6, q6⟩ => ?_)
    refine wpAny_passesOwn hp (thn (hb _ s6 σ6 H6 _ I6 q6) fun f s7 q7 => ?_)
    have again : ∀ {σ7 : St} {H7 : Hp}, Inv X (pins ++ pinsAt fp s5.heap) σ7 H7 s7 -> N σ7 H7 -> ∃ m, m < n /\ ∃ i σ' H', Inv X pins σ' H' s7 /\ tn i s7.heap /\ (∀ b ∈ fp, H' b = none) /\ W i m σ' H' := fun {σ7 H7} I7 n7 => by
      obtain ⟨m', hm, w7⟩ := hN σ7 H7 n7
      refine ⟨m', hm, i + 1, σ7, H7, I7.unpinned, T.keep _ _ _ st5 fun b hb o e => (I7.pin (b, o) (List.mem_append_right _ (List.mem_append_right _ (mem_pinsAt hb e)))).1, fun b hb => ?_, w7⟩
      obtain ⟨o, e, d⟩ := T.obj _ _ st5 b hb
      exact (I7.pin (b, o) (List.mem_append_right _ (List.mem_append_right _ (mem_pinsAt hb e)))).2.1
    cases f with
    | next => obtain ⟨σ7, H7, I7, n7⟩ := q7; exact again I7 n7
    | cont => obtain ⟨σ7, H7, I7, n7⟩ := q7; exact again I7 n7
    | brk => obtain ⟨σ7, H7, I7, q7⟩ := q7; exact ⟨σ7, H7, I7.unpinned, q7⟩
    | ret v => obtain ⟨x7, σ7, H7, I7, r7, q7⟩ := q7; exact ⟨x7, σ7, H7, I7.unpinned, r7, q7⟩
end
theorem for_list {K : PySem.W.Frag} {a : Addr} {xs : List V} {g : TG} {tb : TS} {D : Ends} {σ : St} {H : Hp} (Pv : Nat -> St -> Hp -> Prop) (h0 : Pv 0 σ H) (hl : ∀ i σ H, i <= xs.length -> Pv i σ H -> SqL K H a xs)
    (hs : ∀ i x σ H, xs[i]? = some x -> Pv i σ H -> g x σ H fun σ2 H2 => tb { D with nx := Pv (i + 1), ct := Pv (i + 1), bk := D.nx } σ2 H2) (hd : ∀ σ H, Pv xs.length σ H -> D.nx σ H) :
    ∃ W : Nat -> Nat -> St -> Hp -> Prop, (∃ m, W 0 m σ H) /\ ∀ i m σ H, W i m σ H ->
      ((Itl K a).stop i H /\ D.nx σ H) \/ ((Itl K a).go i H /\ ∃ N : St -> Hp -> Prop, (∀ σ' H', N σ' H' -> ∃ m', m' < m /\ W (i + 1) m' σ' H') /\ ∀ x H', (Itl K a).yld i H x H' -> g x σ H' fun σ2 H2 => tb { D with nx := N, ct := N, bk := D.nx } σ2 H2) := by
  refine ⟨fun i m σ H => m = xs.length - i /\ i <= xs.length /\ Pv i σ H, ⟨xs.length, by simp, Nat.zero_le _, h0⟩, ?_⟩
  rintro i m σ H ⟨rfl, hi, p⟩
  have q := hl i σ H hi p
  by_cases hlt : i < xs.length
  · refine .inr ⟨⟨xs, xs[i], q, by simp [hlt]⟩, Pv (i + 1), fun σ' H' p' => ⟨xs.length - (i + 1), by omega, rfl, hlt, p'⟩, fun x H' y => ?_⟩
    obtain ⟨e, y⟩ := y
    subst e
    exact hs i x σ _ (y xs q) p
  · have e : i = xs.length := by omega
    subst e
    exact .inl ⟨⟨xs, q, Nat.le_refl _⟩, hd σ H p⟩
theorem for_tup {K : PySem.W.Frag} {a : Addr} {xs : List V} {g : TG} {tb : TS} {D : Ends} {σ : St} {H : Hp} (Pv : Nat -> St -> Hp -> Prop) (h0 : Pv 0 σ H) (hl : ∀ i σ H, i <= xs.length -> Pv i σ H -> SqT K H a xs)
    (hs : ∀ i x σ H, xs[i]? = some x -> Pv i σ H -> g x σ H fun σ2 H2 => tb { D with nx := Pv (i + 1), ct := Pv (i + 1), bk := D.nx } σ2 H2) (hd : ∀ σ H, Pv xs.length σ H -> D.nx σ H) :
    ∃ W : Nat -> Nat -> St -> Hp -> Prop, (∃ m, W 0 m σ H) /\ ∀ i m σ H, W i m σ H ->
      ((Itt K a).stop i H /\ D.nx σ H) \/ ((Itt K a).go i H /\ ∃ N : St -> Hp -> Prop, (∀ σ' H', N σ' H' -> ∃ m', m' < m /\ W (i + 1) m' σ' H') /\ ∀ x H', (Itt K a).yld i H x H' -> g x σ H' fun σ2 H2 => tb { D with nx := N, ct := N, bk := D.nx } σ2 H2) := by
  refine ⟨fun i m σ H => m = xs.length - i /\ i <= xs.length /\ Pv i σ H, ⟨xs.length, by simp, Nat.zero_le _, h0⟩, ?_⟩
  rintro i m σ H ⟨rfl, hi, p⟩
  have q := hl i σ H hi p
  by_cases hlt : i < xs.length
  · refine .inr ⟨⟨xs, xs[i], q, by simp [hlt]⟩, Pv (i + 1), fun σ' H' p' => ⟨xs.length - (i + 1), by omega, rfl, hlt, p'⟩, fun x H' y => ?_⟩
    obtain ⟨e, y⟩ := y
    subst e
    exact hs i x σ _ (y xs q) p
  · have e : i = xs.length := by omega
    subst e
    exact .inl ⟨⟨xs, q, Nat.le_refl _⟩, hd σ H p⟩
theorem for_range {lo : Int} {n : Nat} {g : TG} {tb : TS} {D : Ends} {σ : St} {H : Hp} (Pv : Nat -> St -> Hp -> Prop) (h0 : Pv 0 σ H)
    (hs : ∀ i σ H, i < n -> Pv i σ H -> g (.int (lo + i)) σ H fun σ2 H2 => tb { D with nx := Pv (i + 1), ct := Pv (i + 1), bk := D.nx } σ2 H2) (hd : ∀ σ H, Pv n σ H -> D.nx σ H) :
    ∃ W : Nat -> Nat -> St -> Hp -> Prop, (∃ m, W 0 m σ H) /\ ∀ i m σ H, W i m σ H ->
      ((Itr lo n).stop i H /\ D.nx σ H) \/ ((Itr lo n).go i H /\ ∃ N : St -> Hp -> Prop, (∀ σ' H', N σ' H' -> ∃ m', m' < m /\ W (i + 1) m' σ' H') /\ ∀ x H', (Itr lo n).yld i H x H' -> g x σ H' fun σ2 H2 => tb { D with nx := N, ct := N, bk := D.nx } σ2 H2) := by
  refine ⟨fun i m σ H => m = n - i /\ i <= n /\ Pv i σ H, ⟨n, by simp, Nat.zero_le _, h0⟩, ?_⟩
  rintro i m σ H ⟨rfl, hi, p⟩
  by_cases hlt : i < n
  · refine .inr ⟨hlt, Pv (i + 1), fun σ' H' p' => ⟨n - (i + 1), by omega, rfl, hlt, p'⟩, fun x H' y => ?_⟩
    obtain ⟨e, y⟩ := y
    subst e y
    exact hs i σ _ hlt p
  · have e : i = n := by omega
    subst e
    exact .inl ⟨Nat.le_refl _, hd σ H p⟩
end L2
namespace L2
open PySem PySem.Spec PyProof.Rows
noncomputable abbrev R2 := V -> V -> Hp -> VK -> Prop
noncomputable def OpR (X : Cx) (f : Value -> Value -> Sem Value) (r : R2) : Prop :=
  ∀ (pins : List (Addr × Obj)) (s : Shared) (σ : St) (H : Hp) (x y : V) (v u : Value) (Q : VK), Inv X pins σ H s -> RelV x v -> RelV y u -> r x y H Q ->
    wpAny (model X.prog X.w) X.A (f v u) (EP X pins σ Q) X.xe s
noncomputable def UnR (X : Cx) (f : Value -> Sem Value) (r : V -> Hp -> VK -> Prop) : Prop :=
  ∀ (pins : List (Addr × Obj)) (s : Shared) (σ : St) (H : Hp) (x : V) (v : Value) (Q : VK), Inv X pins σ H s -> RelV x v -> r x H Q ->
    wpAny (model X.prog X.w) X.A (f v) (EP X pins σ Q) X.xe s
noncomputable def CallR (X : Cx) (f : Value) (r : List V -> Hp -> VK -> Prop) : Prop :=
  ∀ (pins : List (Addr × Obj)) (s : Shared) (σ : St) (H : Hp) (xs : List V) (us : List Value) (Q : VK), Inv X pins σ H s -> Vals xs us -> r xs H Q ->
    wpAny (model X.prog X.w) X.A (call f us) (EP X pins σ Q) X.xe s
noncomputable def tOp (r : R2) (ta tb : TE) : TE := fun σ H Q => ta σ H fun x H1 => tb σ H1 fun y H2 => r x y H2 Q
noncomputable def tUn (r : V -> Hp -> VK -> Prop) (ta : TE) : TE := fun σ H Q => ta σ H fun x H1 => r x H1 Q
noncomputable def rI (C : Int -> Int -> Prop) (g : Int -> Int -> V) : R2 := fun x y H Q => ∃ i j, x = .int i /\ y = .int j /\ C i j /\ Q (g i j) H
noncomputable def rI0 (g : Int -> Int -> V) : R2 := fun x y H Q => ∃ i j, x = .int i /\ y = .int j /\ Q (g i j) H
noncomputable def rU (g : Int -> V) : V -> Hp -> VK -> Prop := fun x H Q => ∃ i, x = .int i /\ Q (g i) H
section
variable {X : Cx} {a b c : Expr} {ta tb tc : TE} {pos : Pos}
theorem binT (ha : PE X a ta) (hb : PE X b tb) {pins : List (Addr × Obj)} {s : Shared} {σ : St} {H : Hp} {R : V -> V -> Hp -> Prop} (I : Inv X pins σ H s)
    (h : ta σ H fun x H1 => tb σ H1 fun y H2 => R x y H2) {Q : Value -> Shared -> Prop} {f : Value -> Value -> Sem Value}
    (hf : ∀ v u s2 x y H2, Inv X pins σ H2 s2 -> RelV x v -> RelV y u -> R x y H2 -> wpAny (model X.prog X.w) X.A (f v u) Q X.xe s2) :
    wpAny (model X.prog X.w) X.A (eval a X.env) (fun v s₁ => wpAny (model X.prog X.w) X.A (eval b X.env) (fun u s₂ => wpAny (model X.prog X.w) X.A (f v u) Q X.xe s₂) X.xe s₁) X.xe s := by
  refine thn (ha pins s σ H _ I h) fun v s1 ⟨x, H1, I1, r1, q1⟩ => ?_
  refine thn (hb pins s1 σ H1 _ I1 q1) fun u s2 ⟨y, H2, I2, r2, q2⟩ => ?_
  exact hf v u s2 x y H2 I2 r1 r2 q2
theorem pe_op {op : Operator} {r : R2} (ho : OpR X (binaryOp op) r) (ha : PE X a ta) (hb : PE X b tb) : PE X (.BinOp a op b pos) (tOp r ta tb) := by
  intro pins s σ H Q I h
  exact wpAny_BinOp (binT ha hb I h fun v u s2 x y H2 I2 rx ry q => ho pins s2 σ H2 x y v u Q I2 rx ry q)
theorem pe_un {op : UnaryOp} {r : V -> Hp -> VK -> Prop} (ho : UnR X (unaryOp op) r) (ha : PE X a ta) : PE X (.UnaryOp op a pos) (tUn r ta) := by
  intro pins s σ H Q I h
  exact UnaryOp_ (thn (ha pins s σ H _ I h) fun v s1 ⟨x, H1, I1, r1, q1⟩ => ho pins s1 σ H1 x v Q I1 r1 q1)
theorem opI {f : Value -> Value -> Sem Value} {C : Int -> Int -> Prop} {g : Int -> Int -> Int}
    (rule : ∀ (i j : Int) (t u : Tok) (s : Shared) (Q : Value -> Shared -> Prop) (E : Value -> Shared -> Prop), C i j -> Q (.int (g i j) s.toks) { s with toks := s.toks + 1 } -> wpAny (model X.prog X.w) X.A (f (.int i t) (.int j u)) Q E s) :
    OpR X f (rI C fun i j => .int (g i j)) := by
  intro pins s σ H x y v u Q I rx ry h
  obtain ⟨i, j, rfl, rfl, hc, q⟩ := h
  obtain ⟨t, rfl⟩ := rx
  obtain ⟨t', rfl⟩ := ry
  exact rule i j t t' s _ _ hc ⟨.int (g i j), H, I.tok _, ⟨_, rfl⟩, q⟩
theorem opI0 {f : Value -> Value -> Sem Value} {g : Int -> Int -> Int}
    (rule : ∀ (i j : Int) (t u : Tok) (s : Shared) (Q : Value -> Shared -> Prop) (E : Value -> Shared -> Prop), Q (.int (g i j) s.toks) { s with toks := s.toks + 1 } -> wpAny (model X.prog X.w) X.A (f (.int i t) (.int j u)) Q E s) :
    OpR X f (rI0 fun i j => .int (g i j)) := by
  intro pins s σ H x y v u Q I rx ry h
  obtain ⟨i, j, rfl, rfl, q⟩ := h
  obtain ⟨t, rfl⟩ := rx
  obtain ⟨t', rfl⟩ := ry
  exact rule i j t t' s _ _ ⟨.int (g i j), H, I.tok _, ⟨_, rfl⟩, q⟩
theorem opB0 {f : Value -> Value -> Sem Value} {g : Int -> Int -> Bool}
    (rule : ∀ (i j : Int) (t u : Tok) (s : Shared) (Q : Value -> Shared -> Prop) (E : Value -> Shared -> Prop), Q (.bool (g i j)) s -> wpAny (model X.prog X.w) X.A (f (.int i t) (.int j u)) Q E s) :
    OpR X f (rI0 fun i j => .bl (g i j)) := by
  intro pins s σ H x y v u Q I rx ry h
  obtain ⟨i, j, rfl, rfl, q⟩ := h
  obtain ⟨t, rfl⟩ := rx
  obtain ⟨t', rfl⟩ := ry
  exact rule i j t t' s _ _ ⟨.bl (g i j), H, I, rfl, q⟩
noncomputable def CDiv (i j : Int) : Prop := 0 < j /\ j < 1073741824
noncomputable def CPow (i j : Int) : Prop := 0 <= j /\ j <= 1000000 /\ i.natAbs < 2 ^ 64
noncomputable def CMul (i j : Int) : Prop := (-(2 ^ 64) < i /\ i < 2 ^ 64) \/ (-(2 ^ 64) < j /\ j < 2 ^ 64)
theorem CMul.ok {i j : Int} (h : CMul i j) : IntMulOk i j := by
  rcases h with ⟨h1, h2⟩ | ⟨h1, h2⟩
  · exact .of_left (intBits_le_64 h1 h2)
  · exact .of_right (intBits_le_64 h1 h2)
theorem op_add : OpR X (binaryOp .Add) (rI0 fun i j => .int (i + j)) := opI0 fun _ _ _ _ _ _ _ q => add_int q
theorem op_sub : OpR X (binaryOp .Sub) (rI0 fun i j => .int (i - j)) := opI0 fun _ _ _ _ _ _ _ q => sub_int q
theorem op_mul : OpR X (binaryOp .Mult) (rI CMul fun i j => .int (i * j)) := opI fun _ _ _ _ _ _ _ hc q => mul_int q hc.ok
theorem op_fdiv : OpR X (binaryOp .FloorDiv) (rI CDiv fun i j => .int (i / j)) := opI fun i j _ _ _ _ _ hc q => by
  have h1 : (0 : Int) < j := hc.1
  have h2 : j < 1073741824 := hc.2
  exact floordiv_int (by omega) (by rw [Int.fdiv_eq_ediv_of_nonneg i (by omega)]; exact q) (.inl (PyProof.noPylong_small (by omega)))
theorem op_mod : OpR X (binaryOp .Mod) (rI (fun _ j => 0 < j) fun i j => .int (i % j)) := opI fun i j _ _ _ _ _ hc q => by
  have h1 : (0 : Int) < j := hc
  exact mod_int' (by omega) (by rw [Int.fmod_eq_emod_of_nonneg i (by omega)]; exact q)
theorem op_pow : OpR X (binaryOp .Pow) (rI CPow fun i j => .int (i ^ j.toNat)) := opI fun _ _ _ _ _ _ _ hc q => pow_int_small hc.1 hc.2.1 hc.2.2 q
theorem unI {f : Value -> Sem Value} {g : Int -> Int}
    (rule : ∀ (i : Int) (t : Tok) (s : Shared) (Q : Value -> Shared -> Prop) (E : Value -> Shared -> Prop), Q (.int (g i) s.toks) { s with toks := s.toks + 1 } -> wpAny (model X.prog X.w) X.A (f (.int i t)) Q E s) :
    UnR X f (rU fun i => .int (g i)) := by
  intro pins s σ H x v Q I rx h
  obtain ⟨i, rfl, q⟩ := h
  obtain ⟨t, rfl⟩ := rx
  exact rule i t s _ _ ⟨.int (g i), H, I.tok _, ⟨_, rfl⟩, q⟩
theorem un_neg : UnR X (unaryOp .USub) (rU fun i => .int (-i)) := unI fun _ _ _ _ _ q => neg_int q
end
noncomputable def scal : V -> V -> Bool
  | .non, .non => true | .non, .int _ => true | .int _, .non => true | .non, .bl _ => true | .bl _, .non => true | .non, .str _ => true | .str _, .non => true
  | .int _, .int _ => true | .bl _, .bl _ => true | .str _, .str _ => true | .byt _, .byt _ => true
  | .int _, .str _ => true | .str _, .int _ => true | .bl _, .str _ => true | .str _, .bl _ => true
  | _, _ => false
noncomputable def rEq : R2 := fun x y H Q => scal x y = true /\ Q (.bl (decide (x = y))) H
noncomputable def rNe : R2 := fun x y H Q => scal x y = true /\ Q (.bl (!decide (x = y))) H
theorem dec_int {i j : Int} : decide (V.int i = V.int j) = (i == j) := by
  rw [Bool.eq_iff_iff]
  simp
theorem dec_bl {i j : Bool} : decide (V.bl i = V.bl j) = (i == j) := by
  rw [Bool.eq_iff_iff]
  simp
theorem dec_str {i j : Str} : decide (V.str i = V.str j) = (i == j) := by
  rw [Bool.eq_iff_iff]
  simp
theorem dec_byt {i j : Array UInt8} : decide (V.byt i = V.byt j) = (i.toList == j.toList) := by
  rw [Bool.eq_iff_iff]
  cases i
  cases j
  simp
section
variable {X : Cx} {a b c : Expr} {ta tb tc : TE} {pos : Pos}
theorem fin_bl {pins : List (Addr × Obj)} {σ : St} {H : Hp} {s : Shared} {Q : VK} {k k' : Bool} (I : Inv X pins σ H s) (q : Q (.bl k) H) (e : k = k') : EP X pins σ Q (.bool k') s := by
  subst e
  exact ⟨.bl k, H, I, rfl, q⟩
theorem op_eq : OpR X (compareOp .Eq) rEq := by
  intro pins s σ H x y v u Q I rx ry h
  obtain ⟨hs, q⟩ := h
  cases x with
  | non =>
    cases rx
    cases y with
    | non => cases ry; exact PySem.EqNone.eq_none_none (fin_bl I q (by simp))
    | bl j => cases ry; exact PySem.EqNone.eq_none_bool (fin_bl I q (by simp))
    | int j => obtain ⟨t', rfl⟩ := ry; exact PySem.EqNone.eq_none_int (fin_bl I q (by simp))
    | str j => obtain ⟨t', rfl⟩ := ry; exact PySem.EqNone.eq_none_str (fin_bl I q (by simp))
    | _ => exact absurd (show false = true from hs) Bool.false_ne_true
  | bl i =>
    cases rx
    cases y with
    | non => cases ry; exact PySem.EqNone.eq_bool_none (fin_bl I q (by simp))
    | bl j => cases ry; exact eq_bool (fin_bl I q dec_bl)
    | str j => obtain ⟨t', rfl⟩ := ry; exact PySem.EqMixed.eq_bool_str (fin_bl I q (by simp))
    | _ => exact absurd (show false = true from hs) Bool.false_ne_true
  | int i =>
    obtain ⟨t, rfl⟩ := rx
    cases y with
    | non => cases ry; exact PySem.EqNone.eq_int_none (fin_bl I q (by simp))
    | int j => obtain ⟨t', rfl⟩ := ry; exact eq_int (fin_bl I q dec_int)
    | str j => obtain ⟨t', rfl⟩ := ry; exact PySem.EqMixed.eq_int_str (fin_bl I q (by simp))
    | _ => exact absurd (show false = true from hs) Bool.false_ne_true
  | str i =>
    obtain ⟨t, rfl⟩ := rx
    cases y with
    | non => cases ry; exact PySem.EqNone.eq_str_none (fin_bl I q (by simp))
    | bl j => cases ry; exact PySem.EqMixed.eq_str_bool (fin_bl I q (by simp))
    | int j => obtain ⟨t', rfl⟩ := ry; exact PySem.EqMixed.eq_str_int (fin_bl I q (by simp))
    | str j => obtain ⟨t', rfl⟩ := ry; exact eq_str (fin_bl I q dec_str)
    | _ => exact absurd (show false = true from hs) Bool.false_ne_true
  | byt i =>
    obtain ⟨t, rfl⟩ := rx
    cases y with
    | byt j => obtain ⟨t', rfl⟩ := ry; exact PySem.W.eq_bytes (fin_bl I q dec_byt)
    | _ => exact absurd (show false = true from hs) Bool.false_ne_true
  | _ => cases y <;> exact absurd (show false = true from hs) Bool.false_ne_true
theorem op_ne : OpR X (compareOp .NotEq) rNe := by
  intro pins s σ H x y v u Q I rx ry h
  obtain ⟨hs, q⟩ := h
  cases x with
  | non =>
    cases rx
    cases y with
    | non => cases ry; exact PySem.EqNone.ne_none_none (fin_bl I q (by simp))
    | bl j => cases ry; exact PySem.EqNone.ne_none_bool (fin_bl I q (by simp))
    | int j => obtain ⟨t', rfl⟩ := ry; exact PySem.EqNone.ne_none_int (fin_bl I q (by simp))
    | str j => obtain ⟨t', rfl⟩ := ry; exact PySem.EqNone.ne_none_str (fin_bl I q (by simp))
    | _ => exact absurd (show false = true from hs) Bool.false_ne_true
  | bl i =>
    cases rx
    cases y with
    | non => cases ry; exact PySem.EqNone.ne_bool_none (fin_bl I q (by simp))
    | bl j => cases ry; exact ne_bool (fin_bl I q (congrArg not dec_bl))
    | str j => obtain ⟨t', rfl⟩ := ry; exact PySem.EqMixed.ne_bool_str (fin_bl I q (by simp))
    | _ => exact absurd (show false = true from hs) Bool.false_ne_true
  | int i =>
    obtain ⟨t, rfl⟩ := rx
    cases y with
    | non => cases ry; exact PySem.EqNone.ne_int_none (fin_bl I q (by simp))
    | int j => obtain ⟨t', rfl⟩ := ry; exact ne_int (fin_bl I q (congrArg not dec_int))
    | str j => obtain ⟨t', rfl⟩ := ry; exact PySem.EqMixed.ne_int_str (fin_bl I q (by simp))
    | _ => exact absurd (show false = true from hs) Bool.false_ne_true
  | str i =>
    obtain ⟨t, rfl⟩ := rx
    cases y with
    | non => cases ry; exact PySem.EqNone.ne_str_none (fin_bl I q (by simp))
    | bl j => cases ry; exact PySem.EqMixed.ne_str_bool (fin_bl I q (by simp))
    | int j => obtain ⟨t', rfl⟩ := ry; exact PySem.EqMixed.ne_str_int (fin_bl I q (by simp))
    | str j => obtain ⟨t', rfl⟩ := ry; exact ne_str (fin_bl I q (congrArg not dec_str))
    | _ => exact absurd (show false = true from hs) Bool.false_ne_true
  | byt i =>
    obtain ⟨t, rfl⟩ := rx
    cases y with
    | byt j => obtain ⟨t', rfl⟩ := ry; exact PySem.W.ne_bytes (fin_bl I q (congrArg not dec_byt))
    | _ => exact absurd (show false = true from hs) Bool.false_ne_true
  | _ => cases y <;> exact absurd (show false = true from hs) Bool.false_ne_true
theorem op_lt : OpR X (compareOp .Lt) (rI0 fun i j => .bl (decide (i < j))) := opB0 fun _ _ _ _ _ _ _ q => lt_int q
theorem op_gt : OpR X (compareOp .Gt) (rI0 fun i j => .bl (decide (j < i))) := opB0 fun _ _ _ _ _ _ _ q => gt_int q
theorem op_ge : OpR X (compareOp .GtE) (rI0 fun i j => .bl (decide (j <= i))) := opB0 fun _ _ _ _ _ _ _ q => ge_int q
theorem op_in_str : OpR X (compareOp .In) (fun x y H Q => ∃ i j, x = .str i /\ y = .str j /\ Q (.bl (!(Builtin.Str.occurrences j i 0 j.length 1).isEmpty)) H) := by
  intro pins s σ H x y v u Q I rx ry h
  obtain ⟨i, j, rfl, rfl, q⟩ := h
  obtain ⟨t, rfl⟩ := rx
  obtain ⟨t', rfl⟩ := ry
  exact in_str (fin_bl I q rfl)
theorem op_isN : OpR X (compareOp .Is) (fun x y H Q => y = .non /\ Q (.bl (decide (x = .non))) H) := by
  intro pins s σ H x y v u Q I rx ry h
  obtain ⟨rfl, q⟩ := h
  cases ry
  refine is_none_gen (fin_bl I q ?_)
  cases x <;> first
    | (cases rx; rfl)
    | (obtain ⟨t, rfl⟩ := rx; rfl)
theorem op_notN : OpR X (compareOp .IsNot) (fun x y H Q => y = .non /\ Q (.bl (!decide (x = .non))) H) := by
  intro pins s σ H x y v u Q I rx ry h
  obtain ⟨rfl, q⟩ := h
  cases ry
  refine isnot_none_gen (fin_bl I q ?_)
  cases x <;> first
    | (cases rx; rfl)
    | (obtain ⟨t, rfl⟩ := rx; rfl)
theorem nomark (b : Expr) {op : CmpOp} (h : op ≠ .In := by decide) (h2 : op ≠ .NotIn := by decide) : behindInMarks op b = false := by
  have e1 : (op == CmpOp.In) = false := by cases op <;> first | rfl | exact absurd rfl h
  have e2 : (op == CmpOp.NotIn) = false := by cases op <;> first | rfl | exact absurd rfl h2
  cases b <;> simp [behindInMarks, e1, e2]
theorem pe_cmpR {op : CmpOp} {r : R2} (ho : OpR X (compareOp op) r) (ha : PE X a ta) (hb : PE X b tb) (hm : behindInMarks op b = false) : PE X (.Compare a [op] [b] pos) (tOp r ta tb) := by
  intro pins s σ H Q I h
  exact wpAny_Compare1 (binT ha hb I h fun v u s2 x y H2 I2 rx ry q => ho pins s2 σ H2 x y v u Q I2 rx ry q) hm
noncomputable def tTest (t : TE) : TT := fun σ H Q => t σ H fun x H' => ∃ k, x = .bl k /\ Q k H'
theorem pt_cmpR {op : CmpOp} {r : R2} (ho : OpR X (compareOp op) r) (ha : PE X a ta) (hb : PE X b tb) (hm : behindInMarks op b = false) : PT X (.Compare a [op] [b] pos) (tTest (tOp r ta tb)) := by
  intro pins s σ H Q I h
  refine wpAny_isTrue_Compare1 (thn (ha pins s σ H _ I h) fun v s1 ⟨x, H1, I1, r1, q1⟩ => thn (hb pins s1 σ H1 _ I1 q1) fun u s2 ⟨y, H2, I2, r2, q2⟩ =>
    thn (ho pins s2 σ H2 x y v u _ I2 r1 r2 q2) fun c s3 ⟨z, H3, I3, r3, k, e, q3⟩ => ?_) hm
  subst e
  cases r3
  exact wpAny_truthy_bool ⟨H3, I3, q3⟩
theorem line63 : (sizeLine : Nat) < 2 ^ 63 := by rw [sizeLine_eq]; decide
theorem op_add_str : OpR X (binaryOp .Add) (fun x y H Q => ∃ i j, x = .str i /\ y = .str j /\ i.length + j.length <= sizeLine /\ Q (.str (i ++ j)) H) := by
  intro pins s σ H x y v u Q I rx ry h
  obtain ⟨i, j, rfl, rfl, hz, q⟩ := h
  obtain ⟨t, rfl⟩ := rx
  obtain ⟨t', rfl⟩ := ry
  exact add_str (fun t' tk => ⟨.str (i ++ j), H, I.tok _, ⟨_, rfl⟩, q⟩) hz
theorem vals1 {x : V} {us : List Value} (r : Vals [x] us) : ∃ u, us = [u] /\ RelV x u := by
  cases r with
  | cons r1 r2 => cases r2; exact ⟨_, rfl, r1⟩
theorem vals2 {x y : V} {us : List Value} (r : Vals [x, y] us) : ∃ u w', us = [u, w'] /\ RelV x u /\ RelV y w' := by
  cases r with
  | cons r1 r2 =>
    cases r2 with
    | cons r3 r4 => cases r4; exact ⟨_, _, rfl, r1, r3⟩
theorem call_max2 (hc : X.calm = true) : CallR X (.builtin "max") (fun xs H Q => ∃ i j, xs = [.int i, .int j] /\ Q (.int (if j > i then j else i)) H) := by
  intro pins s σ H xs us Q I r h
  obtain ⟨i, j, rfl, q⟩ := h
  obtain ⟨u, w', rfl, ⟨t, rfl⟩, ⟨t', rfl⟩⟩ := vals2 r
  refine max_two_ints (I.ok.hd hc) fun h' tk k => ⟨_, H, I.kept k, ?_, q⟩
  by_cases hj : j > i
  · rw [if_pos hj, if_pos hj]; exact ⟨_, rfl⟩
  · rw [if_neg hj, if_neg hj]; exact ⟨_, rfl⟩
theorem call_min2 (hc : X.calm = true) : CallR X (.builtin "min") (fun xs H Q => ∃ i j, xs = [.int i, .int j] /\ Q (.int (if j < i then j else i)) H) := by
  intro pins s σ H xs us Q I r h
  obtain ⟨i, j, rfl, q⟩ := h
  obtain ⟨u, w', rfl, ⟨t, rfl⟩, ⟨t', rfl⟩⟩ := vals2 r
  refine min_two_ints (I.ok.hd hc) fun h' tk k => ⟨_, H, I.kept k, ?_, q⟩
  by_cases hj : j < i
  · rw [if_pos hj, if_pos hj]; exact ⟨_, rfl⟩
  · rw [if_neg hj, if_neg hj]; exact ⟨_, rfl⟩
theorem call_int1 : CallR X (.type "int") (fun xs H Q => (∃ i, xs = [.int i] /\ Q (.int i) H) \/ ∃ k, xs = [.bl k] /\ Q (.int (if k then 1 else 0)) H) := by
  intro pins s σ H xs us Q I r h
  rcases h with ⟨i, rfl, q⟩ | ⟨k, rfl, q⟩
  · obtain ⟨u, rfl, t, rfl⟩ := vals1 r
    exact call_int_int ⟨.int i, H, I, ⟨_, rfl⟩, q⟩
  · obtain ⟨u, rfl, r1⟩ := vals1 r
    cases r1
    exact call_int_bool ⟨.int (if k then 1 else 0), H, I.tok _, ⟨_, rfl⟩, q⟩
end
end L2
namespace L2
open PySem PySem.Spec PyProof.Rows
structure ObjM (h : Heap) (x dx C : Addr) (mA : Str -> Option Value) : Prop where
  obj : h.get? x = some (PySem.W.instObj C dx)
  ns : h.Ns1 dx mA
  ne : dx ≠ x
theorem lookIn_ns {h : Heap} {dx : Addr} {mA : Str -> Option Value} (n : h.Ns1 dx mA) : ∃ od, h.get? dx = some od /\ ∀ name, PySem.W.lookIn name od = some (mA name) := by
  obtain ⟨o, es, ep, ho, hd, hk, _, hm⟩ := n
  refine ⟨o, ho, fun name => ?_⟩
  have e := hm name
  unfold nsFind findBy at e
  rw [<- Array.find?_toList] at e
  unfold PySem.W.lookIn
  rw [hd]
  dsimp only
  split
  · rename_i y q
    rw [q] at e
    exact congrArg some e
  · rename_i q
    rw [q] at e
    have a : es.toList.any (·.refKey) = false := by
      rw [List.any_eq_false]
      intro y hy
      obtain ⟨z, t, hkey⟩ := hk y (Array.mem_toList_iff.mp hy)
      simp [DictEntry.refKey, hkey]
    have a' : ¬ es.toList.any (·.refKey) = true := by rw [a]; exact Bool.false_ne_true
    rw [if_neg a']
    exact congrArg some e
theorem ObjM.look {h : Heap} {x dx C : Addr} {mA : Str -> Option Value} (I : ObjM h x dx C mA) : ∃ od, PySem.W.InstAt h x (PySem.W.instObj C dx) C (some od) /\ ∀ name, PySem.W.lookIn name od = some (mA name) :=
  let ⟨od, ho, hl⟩ := lookIn_ns I.ns
  ⟨od, ⟨I.obj, rfl, rfl, ho⟩, hl⟩
section
variable {prog : Program} {w : World} {A : Around} {E : Value -> Shared -> Prop} {s : Shared} {K : PySem.W.Frag} {x dx C f : Addr} {mA : Str -> Option Value} {name : Str} {v : Value}
end
noncomputable def putF (f : Str) (v : V) : List (Str × V) -> List (Str × V)
  | [] => [(f, v)]
  | (g, x) :: r => if g = f then (g, v) :: r else (g, x) :: putF f v r
theorem lookup_putF (f g : Str) (v : V) : ∀ fs : List (Str × V), (putF f v fs).lookup g = if g = f then some v else fs.lookup g
  | [] => by
    show List.lookup g [(f, v)] = _
    by_cases h : g = f
    · have hb : (g == f) = true := beq_iff_eq.mpr h
      simp only [List.lookup, hb, if_pos h]
    · have hb : (g == f) = false := beq_eq_false_iff_ne.mpr h
      simp only [List.lookup, hb, if_neg h]
  | (k, x) :: r => by
    have ih := lookup_putF f g v r
    rw [show putF f v ((k, x) :: r) = (if k = f then (k, v) :: r else (k, x) :: putF f v r) from rfl]
    by_cases hk : k = f
    · rw [if_pos hk]
      by_cases h : g = k
      · have hb : (g == k) = true := beq_iff_eq.mpr h
        simp only [List.lookup, hb, if_pos (h.trans hk)]
      · have hb : (g == k) = false := beq_eq_false_iff_ne.mpr h
        simp only [List.lookup, hb, if_neg (fun e : g = f => h (e.trans hk.symm))]
    · rw [if_neg hk]
      by_cases h : g = k
      · have hb : (g == k) = true := beq_iff_eq.mpr h
        simp only [List.lookup, hb, if_neg (fun e : g = f => hk (h.symm.trans e))]
      · have hb : (g == k) = false := beq_eq_false_iff_ne.mpr h
        simp only [List.lookup, hb]
        exact ih
theorem keys_putF (f : Str) (v : V) : ∀ fs : List (Str × V), f ∈ (putF f v fs).map (·.1) /\ ∀ g, g ∈ fs.map (·.1) -> g ∈ (putF f v fs).map (·.1)
  | [] => ⟨by simp [putF], fun g h => by simp at h⟩
  | (k, x) :: r => by
    obtain ⟨i1, i2⟩ := keys_putF f v r
    rw [show putF f v ((k, x) :: r) = (if k = f then (k, v) :: r else (k, x) :: putF f v r) from rfl]
    by_cases hk : k = f
    · rw [if_pos hk]
      subst hk
      exact ⟨by simp, fun g h => by simpa using h⟩
    · rw [if_neg hk]
      refine ⟨?_, fun g h => ?_⟩
      · rw [List.map_cons]
        exact List.mem_cons_of_mem _ i1
      · rw [List.map_cons] at h ⊢
        rcases List.mem_cons.mp h with e | e
        · exact List.mem_cons.mpr (.inl e)
        · exact List.mem_cons_of_mem _ (i2 g e)
theorem RelO.some_of {v : V} {o : Option Value} (r : RelO (some v) o) : ∃ u, o = some u /\ RelV v u := by
  cases o with
  | none => exact (show False from r).elim
  | some u => exact ⟨u, rfl, r⟩
theorem handed_of {v : V} {u : Value} (r : RelV v u) : PySem.W.handedIn u = true := by
  cases v with
  | non => cases (show u = Value.none from r); rfl
  | bl b => cases (show u = Value.bool b from r); rfl
  | int i => obtain ⟨t, e⟩ := (show ∃ t, u = Value.int i t from r); cases e; rfl
  | str x => obtain ⟨t, e⟩ := (show ∃ t, u = Value.str x t from r); cases e; rfl
  | byt b => obtain ⟨t, e⟩ := (show ∃ t, u = Value.bytes b t from r); cases e; rfl
  | flt b => obtain ⟨t, e⟩ := (show ∃ t, u = Value.float b t from r); cases e; rfl
  | ref a => cases (show u = Value.ref a from r); rfl
  | ty n => cases (show u = Value.type n from r); rfl
section
variable {P : Program} {w : World} {H H' : Hp} {h h' : Heap} {a C dx : Addr} {fs fs' : List (Str × V)}
theorem ins_get (hok : HOk P w H h) (e : H a = some (.ins C dx fs)) : ∃ mA, ObjM h a dx C mA /\ (∀ f, RelO (fs.lookup f) (mA f)) /\ PySem.Within mA (fs.map (·.1)) /\ fs.length <= 1000 /\ H dx = some (.own a) := by
  obtain ⟨d, z, ne, ob, mA, n, r, q⟩ := (show ObjOk P w H h a (.ins C dx fs) from hok a _ e)
  exact ⟨mA, ⟨ob, n, ne⟩, r, q, z, d⟩
end
structure Cls (K : PySem.W.Frag) (C : Addr) : Prop where
  pg : PySem.W.plainGet K C Str.empty = true
  hd : PySem.W.hasDictIn K C = true
  po : PySem.W.plainOver K C = true
  sa : PySem.W.findIn K (.ref C) "__setattr__" = some (some (.builtin "object.__setattr__"))
theorem Cls.get {K : PySem.W.Frag} {C : Addr} (c : Cls K C) (f : Str) : PySem.W.plainGet K C f = true := c.pg
noncomputable def NoAttr (K : PySem.W.Frag) (C : Addr) (f : Str) : Prop := PySem.W.findIn K (.ref C) f = some none
structure Con (K : PySem.W.Frag) (C : Addr) (f : Str) (v : V) (u : Value) : Prop where
  at_ : PySem.W.findIn K (.ref C) f = some (some u)
  rel : RelV v u
  get : PySem.W.specialIn K u "__get__" = some none
  cp : PySem.W.copiedNames.contains f = false
structure Meth (K : PySem.W.Frag) (C : Addr) (m : Str) (f : Addr) : Prop where
  at_ : PySem.W.findIn K (.ref C) m = some (some (.ref f))
  fn : PySem.W.isFn K (.ref f) = true
  kp : PySem.W.keepIn K (.ref f) = true
section
variable {X : Cx} {pins : List (Addr × Obj)} {σ : St} {H : Hp} {s : Shared} {a C dx : Addr} {fs : List (Str × V)} {f : Str} {v : V} {A : Around} {E : Value -> Shared -> Prop}
theorem attr_of {prog : Program} {w : World} {env : Env} {e : Expr} {f : Str} {pos : Pos} {s : Shared} {Q : Value -> Shared -> Prop} (hb : attributeBase e f env (eval e env) = eval e env)
    (h : wpAny (model prog w) A (eval e env) (fun o s₁ => wpAny (model prog w) A (getAttr o f true) Q E s₁) E s) : wpAny (model prog w) A (eval (.Attribute e f pos) env) Q E s :=
  Attribute_any_ h (by rw [arm_eval_Attribute, hb])
end
section
variable {X : Cx} {o e value : Expr} {f : Str} {pos pos' tpos : Pos} {ta tv : TE}
end
section
variable {X : Cx} {pins : List (Addr × Obj)} {σ : St} {H : Hp} {s : Shared} {A : Around} {E : Value -> Shared -> Prop} {Q : Value -> Shared -> Prop} {c : Value} {b : Bool}
inductive TyOf (K : PySem.W.Frag) (H : Hp) : V -> Value -> Prop where
  | non : TyOf K H .non (.type "NoneType")
  | bl (x : Bool) : TyOf K H (.bl x) (.type "bool")
  | int (i : Int) : TyOf K H (.int i) (.type "int")
  | str (x : Str) : TyOf K H (.str x) (.type "str")
  | flt (x : UInt64) : TyOf K H (.flt x) (.type "float")
  | lst {a : Addr} {xs : List V} (e : H a = some (.lst xs)) : TyOf K H (.ref a) (.type "list")
  | frz {a : Addr} {o : Obj} {xs : List V} (e : H a = some (.frz o (.lst xs))) : TyOf K H (.ref a) (.type "list")
  | tup {a : Addr} {xs : List V} (e : H a = some (.tup xs)) : TyOf K H (.ref a) (.type "tuple")
  | dK {a : Addr} {kvs : List (Key × V)} (e : H a = some (.dK kvs)) : TyOf K H (.ref a) (.type "dict")
  | dT {a : Addr} {kvs : List (List Key × V)} (e : H a = some (.dT kvs)) : TyOf K H (.ref a) (.type "dict")
  | ins {a C dx : Addr} {fs : List (Str × V)} (e : H a = some (.ins C dx fs)) (cl : Cls K C) (ha : PySem.W.findIn K (.ref C) "__class__" = some (some (.builtin "object.__class__")))
      (hn : PySem.W.specialIn K (.builtin "object.__class__") "__get__" = some (some (.builtin "getset_descriptor.__get__"))) (htk : PySem.W.takesIn K (.builtin "object.__class__") = some true)
      (hm : PySem.W.mroIn K C (.type "object") = some true) : TyOf K H (.ref a) (.ref C)
theorem isinst_ok {x : V} {u t : Value} (I : Inv X pins σ H s) (rx : RelV x u) (ty : TyOf X.K H x t) (e : PySem.W.kitOne X.K t c = some b) (h : ∀ tk, Q (.bool b) { s with toks := tk }) :
    wpAny (model X.prog X.w) A (call (.builtin "isinstance") [u, c]) Q E s := by
  cases ty with
  | non => cases (show u = Value.none from rx); exact PySem.W.kia_one PySem.W.kitx_none I.kIn True.intro e (fun z => nomatch z) h
  | bl y => cases (show u = Value.bool y from rx); exact PySem.W.kia_one PySem.W.kitx_bool I.kIn True.intro e (fun z => nomatch z) h
  | int i => obtain ⟨t, q⟩ := (show ∃ t, u = Value.int i t from rx); cases q; exact PySem.W.kia_one PySem.W.kitx_int I.kIn True.intro e (fun z => nomatch z) h
  | str y => obtain ⟨t, q⟩ := (show ∃ t, u = Value.str y t from rx); cases q; exact PySem.W.kia_one PySem.W.kitx_str I.kIn True.intro e (fun z => nomatch z) h
  | flt y => obtain ⟨t, q⟩ := (show ∃ t, u = Value.float y t from rx); cases q; exact PySem.W.kia_one PySem.W.kitx_float I.kIn True.intro e (fun z => nomatch z) h
  | @lst a xs ea =>
    cases (show u = Value.ref a from rx)
    obtain ⟨_, _, n, _, h1⟩ := (show ObjOk X.prog X.w H s.heap a (.lst xs) from I.hok a _ ea)
    exact PySem.W.kia_one PySem.W.kitx_list I.kIn ⟨_, h1, rfl⟩ e (fun z => nomatch z) h
  | @frz a ob xs ea =>
    cases (show u = Value.ref a from rx)
    obtain ⟨_, _, _, n, _, h1⟩ := (show ObjOk X.prog X.w H s.heap a (.frz ob (.lst xs)) from I.hok a _ ea)
    exact PySem.W.kia_one PySem.W.kitx_list I.kIn ⟨_, h1, rfl⟩ e (fun z => nomatch z) h
  | @tup a xs ea =>
    cases (show u = Value.ref a from rx)
    obtain ⟨_, _, _, p⟩ := (show ObjOk X.prog X.w H s.heap a (.tup xs) from I.hok a _ ea)
    obtain ⟨o, h1, h2, _⟩ := p
    exact PySem.W.kia_one PySem.W.kitx_tuple I.kIn ⟨o, h1, h2⟩ e (fun z => nomatch z) h
  | @dK a kvs ea =>
    cases (show u = Value.ref a from rx)
    obtain ⟨_, _, vs, _, p⟩ := (show ObjOk X.prog X.w H s.heap a (.dK kvs) from I.hok a _ ea)
    obtain ⟨o, es, ep, h1, h2, _⟩ := p
    exact PySem.W.kia_one PySem.W.kitx_dict I.kIn ⟨o, h1, h2.1⟩ e (fun z => nomatch z) h
  | @dT a kvs ea =>
    cases (show u = Value.ref a from rx)
    obtain ⟨_, _, xs, _, o, es, ep, h1, h2, _⟩ := (show ObjOk X.prog X.w H s.heap a (.dT kvs) from I.hok a _ ea)
    exact PySem.W.kia_one PySem.W.kitx_dict I.kIn ⟨o, h1, h2.1⟩ e (fun z => nomatch z) h
  | @ins a C dx fs ea cl ha hn htk hm =>
    cases (show u = Value.ref a from rx)
    obtain ⟨mA, O, _⟩ := ins_get I.hok ea
    obtain ⟨od, J, _⟩ := O.look
    exact PySem.W.kia_one (PySem.W.kitx_own (cl.get _) cl.hd ha hn htk hm) I.kIn J e (fun z => nomatch z) h
end
end L2
namespace L2
open PySem PySem.Spec PyProof.Rows
structure Room (k : Nat) (A : Around) : Prop where
  hd : A.handled = none
  dp : A.depth + 3 * k + 5 < recursionLimit
  un : A.units + 16 * k + 200 < cLine
  gd : A.guards = some []
theorem Room.mono {j k : Nat} {A : Around} (r : Room k A) (h : j <= k) : Room j A := ⟨r.hd, by have := r.dp; omega, by have := r.un; omega, r.gd⟩
theorem Room.deeper {k : Nat} {A : Around} (r : Room (k + 1) A) (env : Env) : Room k (A.deeper env) :=
  ⟨r.hd, by have := r.dp; show A.depth + 1 + 3 * k + 5 < _; omega, by have := r.un; show A.units + 3 + 16 * k + 200 < _; omega, r.gd⟩
theorem make_depth {A : Around} {C : Addr} {us : List Value} {kw : List (Str × Value)} : (A.under (.builtin "type.__call__" ⟨.ref C :: us, kw⟩)).depth = A.depth + 1 := by
  first | rfl | simp [Around.under, Code.weight, Code.isCreation, Code.isGuard, Code.isCaller, Code.frames, Code.isFrame, guardIds]
theorem make_units {A : Around} {C : Addr} {us : List Value} {kw : List (Str × Value)} : (A.under (.builtin "type.__call__" ⟨.ref C :: us, kw⟩)).units = A.units + 1 := by
  first | rfl | simp [Around.under, Code.cUnits, Code.frames, Code.isFrame]
theorem Room.make {k : Nat} {A : Around} (r : Room (k + 1) A) (C : Addr) (us : List Value) (kw : List (Str × Value)) : Room k (A.under (.builtin "type.__call__" ⟨.ref C :: us, kw⟩)) :=
  ⟨r.hd, by have := r.dp; rw [make_depth]; omega, by have := r.un; rw [make_units]; omega, by first | exact r.gd | (simpa [Around.under, Code.guards, Code.isGuard, pushGuards, guardIds] using r.gd)⟩
theorem Room.depth {k : Nat} {A : Around} (r : Room k A) : A.depth < recursionLimit := by have := r.dp; omega
theorem Room.units {k : Nat} {A : Around} (r : Room k A) : A.units + 64 < cLine := by have := r.un; omega
noncomputable def tNil : TA := fun _ H Q => Q [] H
noncomputable def tCons (ta : TE) (tr : TA) : TA := fun σ H Q => ta σ H fun x H1 => tr σ H1 fun xs H2 => Q (x :: xs) H2
section
variable {X : Cx} {e : Expr} {es : List Expr} {te : TE} {t : TA} {pos : Pos}
theorem pa_nil : PA X [] tNil := fun _ _ _ _ H Q I h => Calls.spliced_nil ⟨[], H, I, .nil, h⟩
theorem pa_cons (ha : PE X e te) (hr : PA X es t) (hs : starEach (e :: es) X.env = (false, eval e X.env) :: starEach es X.env := by rfl) : PA X (e :: es) (tCons te t) := by
  intro pos pins s σ H Q I h
  rw [hs]
  show wpAny _ _ (spliced ((false, eval e X.env) :: backTo pos (starEach es X.env))) _ _ s
  refine Calls.spliced_cons (thn (ha pins s σ H _ I h) fun u s1 ⟨x, H1, I1, r1, q1⟩ => ?_)
  exact thn (hr pos pins s1 σ H1 _ I1 q1) fun us s2 ⟨xs, H2, I2, r2, q2⟩ => ⟨x :: xs, H2, I2, .cons r1 r2, q2⟩
noncomputable def tTup (t : TA) : TE := fun σ H Q => t σ H fun xs H1 => xs.length <= sizeLine /\ ∀ p, H1 p = none -> Q (.ref p) (upd H1 p (.tup xs))
noncomputable def tLst (t : TA) : TE := fun σ H Q => t σ H fun xs H1 => xs.length <= sizeLine /\ ∀ p, H1 p = none -> Q (.ref p) (upd H1 p (.lst xs))
theorem pe_tup {x1} (h : PA X es t) : PE X (.Tuple es x1 pos) (tTup t) := by
  intro pins s σ H Q I hq
  refine wpAny_Tuple_spliced (thn (h pos pins s σ H _ I hq) fun us s1 ⟨xs, H1, I1, r, z, q⟩ => ⟨by rw [<- r.length]; exact z, ?_⟩)
  have hf : H1 s1.heap.objs.size = none := I1.hok.fresh (Nat.le_refl _)
  refine ⟨.ref s1.heap.objs.size, upd H1 s1.heap.objs.size (.tup xs), I1.laid (t' := s1.toks) (fun b u e => Heap.get?_push_of_some _ e) (Nat.le_refl _) ?_, rfl, q _ hf⟩
  exact ⟨z, us, r, ⟨_, Heap.get?_push_size _ rfl, rfl, _, rfl⟩⟩
theorem pe_lst (h : PA X es t) : PE X (.List es pos) (tLst t) := by
  intro pins s σ H Q I hq
  refine wpAny_List_spliced (thn (h pos pins s σ H _ I hq) fun us s1 ⟨xs, H1, I1, r, z, q⟩ => ⟨by rw [<- r.length]; exact z, ?_⟩)
  have hf : H1 s1.heap.objs.size = none := I1.hok.fresh (Nat.le_refl _)
  refine ⟨.ref s1.heap.objs.size, upd H1 s1.heap.objs.size (.lst xs), I1.laid (t' := s1.toks) (fun b u e => Heap.get?_push_of_some _ e) (Nat.le_refl _) ?_, rfl, q _ hf⟩
  exact ⟨z, us, 0, r, Heap.get?_push_size _ rfl⟩
end
noncomputable abbrev Sp := List V -> Hp -> VK -> XK -> Prop
noncomputable abbrev CXT := List Env -> Hp -> Shared -> XK -> Value -> Shared -> Prop
structure Env0 (P : Program) (w : World) (K : PySem.W.Frag) (mg : Str -> Option Value) (base : Heap) (A : Around) (outer : List Env) (s : Shared) (H : Hp) : Prop where
  frames : A.frames = some outer
  mod : Mod K mg base
  bs : ∀ b o, base.get? b = some o -> s.heap.get? b = some o /\ H b = none
  bsz : base.objs.size <= s.heap.objs.size
  funs : s.heap.FunFrames base outer
  frf : ∀ b ∈ frs outer, H b = none
  hok : HOk P w H s.heap
  bare : AllBare s.gens
noncomputable def CE (outer : List Env) (P : Program) (w : World) (H : Hp) (s : Shared) (Q : VK) (u : Value) (s' : Shared) : Prop :=
  ∃ v H', s'.os = s.os /\ AllBare s'.gens /\ Un (frs outer) [] H H' s.heap s'.heap /\ HOk P w H' s'.heap /\ RelV v u /\ Q v H'
noncomputable def CR (CX : CXT) (outer : List Env) (P : Program) (w : World) (H : Hp) (s : Shared) (Q : VK) (E : XK) (r : Result) (s' : Shared) : Prop :=
  match r with
  | .ok (.ret u) => CE outer P w H s Q u s'
  | .ok _ => False
  | .error e => CX outer H s E e s'
structure FnOk (P : Program) (w : World) (K : PySem.W.Frag) (mg : Str -> Option Value) (base : Heap) (CX : CXT) (k : Nat) (f : Addr) (fd : FuncData) (ps : List Str) (sp : Sp) : Prop where
  len : ∀ vs H Q E, sp vs H Q E -> vs.length = ps.length
  run : ∀ (A : Around) (outer : List Env) (s : Shared) (H : Hp) (args : Args) (us : List Value) (vs : List V) (Q : VK) (E : XK), Room k A -> Env0 P w K mg base A outer s H -> BindsTo s fd args (ps.zip us) -> Vals vs us -> sp vs H Q E ->
    codeAny (model P w) A (.call (.ref f) args) (CR CX outer P w H s Q E) s
theorem Env0.make {P : Program} {w : World} {K : PySem.W.Frag} {mg : Str -> Option Value} {base : Heap} {A : Around} {outer : List Env} {s : Shared} {H : Hp} (e : Env0 P w K mg base A outer s H) (C : Addr) (us : List Value) (kw : List (Str × Value)) :
    Env0 P w K mg base (A.under (.builtin "type.__call__" ⟨.ref C :: us, kw⟩)) outer s H := ⟨by first | exact e.frames | (simpa [Around.under, Code.envs, Code.isFrame, pushEnvs] using e.frames), e.mod, e.bs, e.bsz, e.funs, e.frf, e.hok, e.bare⟩
section
variable {X : Cx} {pins : List (Addr × Obj)} {σ : St} {H : Hp} {s s' : Shared}
theorem Inv.env0 (I : Inv X pins σ H s) : Env0 X.prog X.w X.K X.mg X.base X.A X.stack s H :=
  ⟨I.ok.frames, I.ok.mod, I.bs, Nat.le_trans I.ok.bsz I.sz, I.stack, I.stkFree, I.hok, I.bare⟩
theorem Inv.after {Q : VK} {u : Value} (I : Inv X pins σ H s) (h : CE X.stack X.prog X.w H s Q u s') : EP X pins σ Q u s' := by
  obtain ⟨v, H', os, bare, un, hok, r, q⟩ := h
  obtain ⟨hh, g, d, t, os'⟩ := s'
  obtain rfl : os' = s.os := os
  exact ⟨v, H', I.call (h' := hh) (g' := g) (d' := d) (t' := t) (ch := []) un hok bare (fun b z => absurd z (by simp)), r, q⟩
end
noncomputable def tCall (sp : Sp) (dvs : List V) (E : XK) (t : TA) : TE := fun σ H Q => t σ H fun vs H1 => sp (vs ++ dvs) H1 Q E
noncomputable def Binds (K : PySem.W.Frag) (fd : FuncData) (ps : List Str) (ds : List Value) : Prop :=
  ∀ (s : Shared) (us : List Value), K.In s.heap -> (us ++ ds).length = ps.length -> BindsTo s fd ⟨us, []⟩ (ps.zip (us ++ ds))
theorem Binds.all {K : PySem.W.Frag} {fd : FuncData} {ps : List Str} (h : ∀ us : List Value, us.length = ps.length -> bindArgs fd ⟨us, []⟩ = pure (ps.zip us)) : Binds K fd ps [] := fun s us _ hl => by
  rw [List.append_nil] at hl ⊢
  exact .of_eq (h us hl)
noncomputable def Passes (CX : CXT) (X : Cx) (E : XK) : Prop := ∀ (pins : List (Addr × Obj)) (σ : St) (H : Hp) (s : Shared) (e : Value) (s' : Shared), Inv X pins σ H s -> CX X.stack H s E e s' -> X.xe e s'
section
variable {X : Cx} {CX : CXT} {k : Nat} {f C : Addr} {fd : FuncData} {ps : List Str} {sp : Sp} {dvs : List V} {ds : List Value} {E : XK} {x m : Str} {p pos apos : Pos} {e o : Expr} {es : List Expr} {ta : TE} {t : TA}
theorem run_fn {pins : List (Addr × Obj)} {σ : St} {H : Hp} {s : Shared} {Q : VK} {us : List Value} {vs : List V} (F : FnOk X.prog X.w X.K X.mg X.base CX k f fd ps sp) (hr : Room k X.A) (hb : Binds X.K fd ps ds) (hd : Vals dvs ds) (hx : Passes CX X E)
    (I : Inv X pins σ H s) (r : Vals vs us) (h : sp (vs ++ dvs) H Q E) : wpAny (model X.prog X.w) X.A (call (.ref f) us) (EP X pins σ Q) X.xe s := by
  have r2 : Vals (vs ++ dvs) (us ++ ds) := r.append hd
  have hl : (us ++ ds).length = ps.length := by rw [<- r2.length]; exact F.len _ _ _ _ h
  refine wpAny_call (codeAny_mono (F.run X.A X.stack s H ⟨us, []⟩ (us ++ ds) (vs ++ dvs) Q E hr I.env0 (hb s us I.kIn hl) r2 h) fun r s' hq => ?_)
  cases r with
  | error e => exact hx pins σ H s e s' I hq
  | ok fl =>
    cases fl with
    | ret u => exact I.after hq
    | next => exact False.elim hq
    | brk => exact False.elim hq
    | cont => exact False.elim hq
theorem pe_call (F : FnOk X.prog X.w X.K X.mg X.base CX k f fd ps sp) (hr : Room k X.A) (hg : Gl X x) (hm : X.mg x = some (.ref f)) (hk : PySem.W.keepIn X.K (.ref f) = true) (hb : Binds X.K fd ps ds) (hd : Vals dvs ds) (hx : Passes CX X E)
    (ha : PA X (e :: es) t) (hdb : (x == ("__debug__" : Str)) = false := by decide) (he : starEach (e :: es) X.env = (false, eval e X.env) :: starEach es X.env := by rfl) (hpl : (backTo pos (starEach es X.env)).any (·.1) = false := by rfl) :
    PE X (.Call (.Name x p) (e :: es) [] pos) (tCall sp dvs E t) := by
  intro pins s σ H Q I h
  refine wpAny_Call_Name_kw (ld_glob I hg hm ?_ hdb)
  refine PySem.W.callWith_K (h₀ := X.base) I.ok.mod.kin hk (thn (ha pos pins s σ H _ I h) fun us s1 ⟨vs, H1, I1, r, q⟩ => ⟨I1.kIn, ?_⟩) he hpl
  exact run_fn F hr hb hd hx I1 r q
structure Mk (K : PySem.W.Frag) (C f : Addr) : Prop where
  makes : PySem.W.makesIn K C = true
  init : PySem.W.findIn K (.ref C) "__init__" = some (some (.ref f))
  fn : PySem.W.isFn K (.ref f) = true
  kp : PySem.W.keepIn K (.ref C) = true
end
section
variable {X : Cx} {CX : CXT} {k : Nat} {f C : Addr} {fd : FuncData} {ps ks : List Str} {sp : Sp} {E : XK} {x m : Str} {p pos apos kpos : Pos} {e o : Expr} {es : List Expr} {kws : List Keyword} {te ta : TE} {t tk : TA} {nm : Option Str}
structure KBinds (K : PySem.W.Frag) (fd : FuncData) (ps ks : List Str) (g : List Value -> List Value -> List Value) (gV : List V -> List V -> List V) : Prop where
  to : ∀ (s : Shared) (us ws : List Value), K.In s.heap -> (g us ws).length = ps.length -> BindsTo s fd ⟨us, ks.zip ws⟩ (ps.zip (g us ws))
  rel : ∀ {vs : List V} {us : List Value} {zs : List V} {ws : List Value}, Vals vs us -> Vals zs ws -> Vals (gV vs zs) (g us ws)
variable {g : List Value -> List Value -> List Value} {gV : List V -> List V -> List V}
end
structure FnScope (N P : List Str) (sc : Scope) : Prop where
  kind : sc.kind = .function
  co : sc.isCoroutine = false
  gen : sc.isGenerator = false
  nd : N.Nodup
  pre : N.take P.length = P
  par : ∀ x ∈ P, sc.names.lookup x = some .local \/ sc.names.lookup x = some .cell
  nofree : ∀ y ∈ sc.names, y.2 ≠ .free
theorem bindL_out {kindOf : Str -> Option NameKind} {x : Str} : ∀ {binds : List (Str × Value)} {m : Str -> Option Value}, (∀ v, (x, v) ∉ binds) -> bindL kindOf binds m x = m x
  | [], _, _ => rfl
  | (n, v) :: r, m, h => by
    unfold bindL
    rw [bindL_out fun w hw => h w (List.mem_cons_of_mem _ hw)]
    split
    · have : x ≠ n := by rintro rfl; exact h v List.mem_cons_self
      simp [this]
    · rfl
theorem bindC_out {kindOf : Str -> Option NameKind} {x : Str} : ∀ {binds : List (Str × Value)} {m : Str -> Option Value}, (∀ v, (x, v) ∉ binds) -> bindC kindOf binds m x = m x
  | [], _, _ => rfl
  | (n, v) :: r, m, h => by
    unfold bindC
    rw [bindC_out fun w hw => h w (List.mem_cons_of_mem _ hw)]
    split
    · rfl
    · have : x ≠ n := by rintro rfl; exact h v List.mem_cons_self
      simp [this]
theorem bindL_get {kindOf : Str -> Option NameKind} {x : Str} {v : Value} : ∀ {P : List Str} {vs : List Value} {i : Nat} {m : Str -> Option Value}, P.Nodup -> P[i]? = some x -> vs[i]? = some v -> kindOf x = some .local ->
    bindL kindOf (P.zip vs) m x = some v
  | [], _, _, _, _, h, _, _ => by simp at h
  | _ :: _, [], _, _, _, _, h, _ => by simp at h
  | p :: P, w :: vs, 0, m, nd, h1, h2, hk => by
    simp at h1 h2; subst h1; subst h2
    show bindL kindOf ((p, w) :: P.zip vs) m p = _
    unfold bindL
    rw [bindL_out fun v hv => (List.nodup_cons.mp nd).1 (List.of_mem_zip hv).1, if_pos hk]
    simp
  | p :: P, w :: vs, i + 1, m, nd, h1, h2, hk => by
    show bindL kindOf ((p, w) :: P.zip vs) m x = _
    unfold bindL
    exact bindL_get (i := i) (List.nodup_cons.mp nd).2 (by simpa using h1) (by simpa using h2) hk
theorem bindC_get {kindOf : Str -> Option NameKind} {x : Str} {v : Value} : ∀ {P : List Str} {vs : List Value} {i : Nat} {m : Str -> Option Value}, P.Nodup -> P[i]? = some x -> vs[i]? = some v -> kindOf x ≠ some .local ->
    bindC kindOf (P.zip vs) m x = some v
  | [], _, _, _, _, h, _, _ => by simp at h
  | _ :: _, [], _, _, _, _, h, _ => by simp at h
  | p :: P, w :: vs, 0, m, nd, h1, h2, hk => by
    simp at h1 h2; subst h1; subst h2
    show bindC kindOf ((p, w) :: P.zip vs) m p = _
    unfold bindC
    rw [bindC_out fun v hv => (List.nodup_cons.mp nd).1 (List.of_mem_zip hv).1, if_neg hk]
    simp
  | p :: P, w :: vs, i + 1, m, nd, h1, h2, hk => by
    show bindC kindOf ((p, w) :: P.zip vs) m x = _
    unfold bindC
    exact bindC_get (i := i) (List.nodup_cons.mp nd).2 (by simpa using h1) (by simpa using h2) hk
noncomputable def start (N : List Str) (vs : List V) : St := vs.map some ++ List.replicate (N.length - vs.length) none
noncomputable def cxOf (CX : CXT) (P : Program) (w : World) (K : PySem.W.Frag) (mg : Str -> Option Value) (base : Heap) (N : List Str) (qual : Str) (scope : Scope) (f : Addr) (cd : Value) (A : Around) (outer : List Env) (s : Shared) (H : Hp) (E : XK) : Cx where
  prog := P
  w := w
  K := K
  mg := mg
  base := base
  A := A.deeper (envOfC qual scope s.heap.objs.size f cd)
  N := N
  s₀ := s
  H₀ := H
  env := envOfC qual scope s.heap.objs.size f cd
  outer := outer
  stack := envOfC qual scope s.heap.objs.size f cd :: outer
  ex := []
  calm := true
  fn := fun _ => true
  pn := []
  xe := fun e s' => wpAny (model P w) (A.deeper (envOfC qual scope s.heap.objs.size f cd)) (leaving (envOfC qual scope s.heap.objs.size f cd) e) (fun _ s'' => CX outer H s E e s'') (fun e' s'' => CX outer H s E e' s'') s'
theorem cell_has {sc : Scope} {n : Nat} {x : Str} (h : sc.names.lookup x = some .cell) : ∃ c, (cellsFrom n sc.names []).lookup x = some c := by
  have q := PySem.W.cellsFrom_some sc.names n [] (.inl h)
  exact Option.isSome_iff_exists.mp q
theorem inv_start {CX : CXT} {P : Program} {w : World} {K : PySem.W.Frag} {mg : Str -> Option Value} {base : Heap} {N ps : List Str} {qual : Str} {scope : Scope} {f : Addr} {cd : Value} {A : Around} {outer : List Env} {s s1 : Shared} {H : Hp} {E : XK} {us : List Value} {vs : List V}
    (S : FnScope N ps scope) (hd : A.handled = none) (e0 : Env0 P w K mg base A outer s H) (hl : vs.length = ps.length) (r : Vals vs us)
    (x : InCallC s s.heap.objs.size (bindL (envOfC qual scope s.heap.objs.size f cd).kindOf (ps.zip us) fun _ => none) (cellsFrom (s.heap.objs.size + 1) scope.names []) (bindC (envOfC qual scope s.heap.objs.size f cd).kindOf (ps.zip us) fun _ => none) s1) :
    Inv (cxOf CX P w K mg base N qual scope f cd A outer s H E) [] (start N vs) H s1 := by
  have hpl : ps.length <= N.length := by have := congrArg List.length S.pre; rw [List.length_take] at this; omega
  obtain ⟨h1, tk, rfl, hk⟩ := x.done
  have noA : ∀ b : Addr, b ∉ (cxOf CX P w K mg base N qual scope f cd A outer s H E).ex := fun b z => absurd (show b ∈ ([] : List Addr) from z) (by simp)
  refine ⟨⟨e0.mod, S.kind, rfl, rfl, Nat.le_refl _, fun y z c h1 h2 => ?_, fun y hy => ?_, fun y c _ h => ?_, fun _ => hd, Around.frames_deeper e0.frames, .inr ⟨rfl, rfl⟩, fun b z => absurd z (noA b), e0.bs, e0.bsz, fun b _ _ => noA b, fun b z => absurd z (noA b), e0.funs, e0.frf⟩,
    rfl, e0.bare, Un.kept hk, ⟨_, x.toInCall.ns, fun i y v h1 h2 h3 => ?_⟩, fun y c h => ⟨_, x.cell y c h⟩, e0.hok.fresh (Nat.le_refl _), fun y c h => ?_, fun p hp => absurd (show p ∈ ([] : List (Addr × Obj)) from hp) (by simp), e0.hok.kept hk, ?_⟩
  · exact name_of_addr x.apart (PySem.mem_of_lookup h1) (PySem.mem_of_lookup h2)
  · have hy : scope.names.lookup y = some .cell \/ scope.names.lookup y = some .free := hy
    rcases hy with hy | hy
    · exact cell_has hy
    · exact absurd rfl (S.nofree _ (PySem.mem_of_lookup hy))
  · exact Nat.le_of_lt (x.above y c (PySem.mem_of_lookup h))
  · have hi : i < vs.length := by
      unfold start at h2
      by_cases hi : i < vs.length
      · exact hi
      · rw [List.getElem?_append_right (by simpa using hi)] at h2
        rw [List.getElem?_replicate] at h2
        split at h2 <;> cases h2
    have ha : vs[i]? = some v := by
      unfold start at h2
      rw [List.getElem?_append_left (by simpa using hi), List.getElem?_map] at h2
      cases e : vs[i]? with
      | none => rw [e] at h2; cases h2
      | some a => rw [e] at h2; cases h2; rfl
    obtain ⟨u, hu, rv⟩ := r.get ha
    have hp : ps[i]? = some y := by
      rw [<- S.pre, List.getElem?_take_of_lt (by omega)]; exact h1
    have ndP : ps.Nodup := by rw [<- S.pre]; exact S.nd.sublist (List.take_sublist _ _)
    refine ⟨u, rv, ?_⟩
    rcases S.par y (List.mem_of_getElem? hp) with k | k
    · exact .inl ⟨k, bindL_get ndP hp hu k⟩
    · obtain ⟨c, e⟩ := cell_has (n := s.heap.objs.size + 1) k
      refine .inr ⟨.inl k, c, e, ?_⟩
      have q := x.cell y c e
      rw [bindC_get ndP hp hu (by show scope.names.lookup y ≠ _; rw [k]; decide)] at q
      exact q
  · exact e0.hok.fresh (Nat.le_of_lt (x.above y c (PySem.mem_of_lookup h)))
  · unfold start
    show _ = N.length
    rw [List.length_append, List.length_map, List.length_replicate]
    omega
theorem fn_of {CX : CXT} {P : Program} {w : World} {K : PySem.W.Frag} {mg : Str -> Option Value} {base : Heap} {k : Nat} {f : Addr} {name qual : Str} {params : Arguments} {body : List Stmt} {scope : Scope} {dV kV doc pm cdv ct oc : Value} {an od : Option Addr}
    {osl : Array (Option Value)} {N ps : List Str} {sp : Sp} (lk : K.lookup f = some ⟨oc, od, .func (PySem.W.fnOf name qual params body scope dV kV doc pm an cdv ct), osl⟩) (hcd : PySem.W.codeIn K cdv qual = true) (S : FnScope N ps scope)
    (len : ∀ vs H Q E, sp vs H Q E -> vs.length = ps.length)
    (hbody : ∀ (A : Around) (outer : List Env) (s : Shared) (H : Hp) (vs : List V) (Q : VK) (E : XK), Room k (A.deeper (envOfC qual scope s.heap.objs.size f cdv)) -> sp vs H Q E ->
      ∃ t, PSs (cxOf CX P w K mg base N qual scope f cdv A outer s H E) body t /\ t { nx := fun _ H' => Q .non H', rt := Q } (start N vs) H) :
    FnOk P w K mg base CX (k + 1) f (PySem.W.fnOf name qual params body scope dV kV doc pm an cdv ct) ps sp := by
  refine ⟨len, fun A outer s H args us vs Q E hr e0 hb r hsp => ?_⟩
  have hl := len _ _ _ _ hsp
  have KX : K.In s.heap := e0.mod.kin.keeps fun b o e => (e0.bs b o e).1
  have lim : s.heap.NoLimit := e0.mod.nolimit.keeps fun b o e => (e0.bs b o e).1
  have hkind : ∀ y ∈ ps.zip us, scope.names.lookup y.1 = some .local \/ (scope.names.lookup y.1 = some .cell /\ ((cellsFrom (s.heap.objs.size + 1) scope.names []).lookup y.1).isSome = true) := fun ⟨n, v⟩ hy => by
    rcases S.par n (List.of_mem_zip hy).1 with q | q
    · exact .inl q
    · exact .inr ⟨q, PySem.W.cellsFrom_some _ _ _ (.inl q)⟩
  refine codeAny_call_function hr.depth (KX _ _ lk) rfl S.co S.gen rfl (PySem.W.codeRec_of KX hcd) (hb _ _ _ _ ?_)
  refine wpAny_newFunctionEnv_cells S.kind hkind fun env he s1 x => ?_
  subst he
  refine ⟨lim.keeps x.toInCall.keep, codeAny_func ?_⟩
  obtain ⟨t, ht, hq⟩ := hbody A outer s H vs Q E (hr.deeper _) hsp
  have I : Inv (cxOf CX P w K mg base N qual scope f cdv A outer s H E) [] (start N vs) H s1 := inv_start S hr.hd e0 hl r x
  refine wpAny_mono (ht [] s1 (start N vs) H _ I hq) (fun fl s' hs => ?_) fun e s' hs => hs
  have fin : ∀ {σ' : St} {H' : Hp} {v : V} {u : Value}, Inv (cxOf CX P w K mg base N qual scope f cdv A outer s H E) [] σ' H' s' -> RelV v u -> Q v H' -> CE outer P w H s Q u s' :=
    fun {σ' H' v u} J rv q => ⟨v, H', J.os, J.bare, J.base, J.hok, rv, q⟩
  cases fl with
  | ret u =>
    obtain ⟨v, σ', H', J, rv, q⟩ := hs
    exact fin J rv q
  | next =>
    obtain ⟨σ', H', J, q⟩ := hs
    exact fin (v := V.non) (u := Value.none) J rfl q
  | brk =>
    obtain ⟨_, _, _, q⟩ := hs
    exact False.elim q
  | cont =>
    obtain ⟨_, _, _, q⟩ := hs
    exact False.elim q
end L2
namespace L2
open PySem PySem.Spec PyProof.Rows
section
variable {X : Cx} {x : Str} {p pos : Pos} {e : Expr} {es : List Expr} {t : TA} {id T : String} {r : List V -> Hp -> VK -> Prop}
noncomputable def tCB (r : List V -> Hp -> VK -> Prop) (t : TA) : TE := fun σ H Q => t σ H fun vs H1 => r vs H1 Q
theorem pe_callB (hc : CallR X (.builtin id) r) (hg : Gl X x) (hm : X.mg x = none) (hv : bootBuiltins x = some (.builtin id)) (ha : PA X (e :: es) t) (hn : x ≠ "__name__" := by decide) (hdb : (x == ("__debug__" : Str)) = false := by decide)
    (he : starEach (e :: es) X.env = (false, eval e X.env) :: starEach es X.env := by rfl) (hpl : (backTo pos (starEach es X.env)).any (·.1) = false := by rfl) : PE X (.Call (.Name x p) (e :: es) [] pos) (tCB r t) := by
  intro pins s σ H Q I h
  refine wpAny_Call_Name_kw (ld_blt I hg hm hv ?_ hn hdb)
  exact PyProof.Rows.callWith_builtin1 (thn (ha pos pins s σ H _ I h) fun us s1 ⟨vs, H1, I1, r1, q1⟩ => hc pins s1 σ H1 vs us Q I1 r1 q1) he hpl
theorem pe_callTy (hc : CallR X (.type T) r) (hg : Gl X x) (hm : X.mg x = none) (hv : bootBuiltins x = some (.type T)) (ha : PA X (e :: es) t) (hn : x ≠ "__name__" := by decide) (hdb : (x == ("__debug__" : Str)) = false := by decide)
    (he : starEach (e :: es) X.env = (false, eval e X.env) :: starEach es X.env := by rfl) (hpl : (backTo pos (starEach es X.env)).any (·.1) = false := by rfl) : PE X (.Call (.Name x p) (e :: es) [] pos) (tCB r t) := by
  intro pins s σ H Q I h
  refine wpAny_Call_Name_kw (ld_blt I hg hm hv ?_ hn hdb)
  exact PyProof.Rows.callWith_type1 (thn (ha pos pins s σ H _ I h) fun us s1 ⟨vs, H1, I1, r1, q1⟩ => hc pins s1 σ H1 vs us Q I1 r1 q1) he hpl
end
end L2
namespace HT
open PySem PyProof.Rows
section
open PySem.SeqAt
open PySem.AutoSeq1 (wpAny_loadPart')
open PySem.MeetsSeq PySem.MeetsSeq2 PySem.MeetsSeq3
end
section
variable {prog : Program} {w : World} {A : Around} {E : Value -> Shared -> Prop} {s : Shared}
theorem cat_tup {t b : Addr} {vs ws : List Value} {Q : Value -> Shared -> Prop} (ht : IsTup s.heap t vs.toArray) (hb : IsTup s.heap b ws.toArray) (hv : vs ≠ [])
    (h1 : ws = [] -> Q (.ref t) s) (h2 : ws ≠ [] -> Q (.ref s.heap.objs.size) { s with heap := s.heap.push { cls := .type "tuple", data := .seq (vs ++ ws).toArray } })
    (hsz : vs.length + ws.length <= sizeLine) : wpAny (model prog w) A (binaryOp .Add (.ref t) (.ref b)) Q E s := by
  obtain ⟨⟨cls, dd, data, sl⟩, ho, hc, n, hd⟩ := id ht
  obtain ⟨⟨cls2, dd2, data2, sl2⟩, ho2, hc2, n2, hd2⟩ := id hb
  simp only at hc hd hc2 hd2
  subst hc hd hc2 hd2
  have e : vs.toArray ++ ws.toArray = (vs ++ ws).toArray := by simp
  by_cases hw : ws = []
  · exact concat_meets ⟨_, ho, rfl⟩ ⟨_, ho2, rfl⟩ noFill_tuple_add seq_tuple_add PySem.F.slot_tuple_add PySem.F.entry_tuple_add (PySem.F.args_tuple_add_2 _ _)
      (tuple_addW1 t b vs.toArray ws.toArray n n2 dd dd2 sl sl2 (by simpa using hv) (by simp [hw])) ⟨ho, ho2, h1 hw⟩
  · refine concat_meets ⟨_, ho, rfl⟩ ⟨_, ho2, rfl⟩ noFill_tuple_add seq_tuple_add PySem.F.slot_tuple_add PySem.F.entry_tuple_add (PySem.F.args_tuple_add_2 _ _)
      (tuple_addW2 t b vs.toArray ws.toArray n n2 dd dd2 sl sl2 (by simpa using hv) (by simpa using hw) (by rw [List.size_toArray, List.size_toArray]; exact hsz)) ⟨ho, ho2, ?_⟩
    rw [e]
    exact h2 hw
noncomputable def sIx (n d : Nat) : Option Int -> Nat
  | none => d
  | some v => if v < 0 then (v + (n : Int)).toNat else min v.toNat n
theorem sIx_none (n d : Nat) : sIx n d none = d := rfl
theorem sIx_nat (n d k : Nat) : sIx n d (some (k : Int)) = min k n := by
  show (if (k : Int) < 0 then ((k : Int) + (n : Int)).toNat else min (k : Int).toNat n) = min k n
  rw [if_neg (by omega), Int.toNat_natCast]
theorem sIx_le (n d : Nat) (hd : d <= n) (o : Option Int) : sIx n d o <= n := by
  cases o with
  | none => exact hd
  | some v =>
    show (if v < 0 then (v + (n : Int)).toNat else min v.toNat n) <= n
    by_cases hv : v < 0
    · rw [if_pos hv]; omega
    · rw [if_neg hv]; exact Nat.min_le_right _ _
theorem clip_eq (v : Int) (n d : Nat) : (if v < 0 then max (v + (n : Int)) 0 else min v (n : Int)) = ((sIx n d (some v) : Nat) : Int) := by
  show (if v < 0 then max (v + (n : Int)) 0 else min v (n : Int)) = (((if v < 0 then (v + (n : Int)).toNat else min v.toNat n) : Nat) : Int)
  by_cases hv : v < 0
  · simp only [if_pos hv]; omega
  · simp only [if_neg hv]; omega
theorem adjust_gen (lo hi : Option Int) (n : Nat) : Builtin.Slice.sliceAdjust lo hi 1 (n : Int) = (((sIx n 0 lo : Nat) : Int), ((sIx n n hi : Nat) : Int)) := by
  have h1 : ¬ ((1 : Int) < 0) := by omega
  unfold Builtin.Slice.sliceAdjust
  simp only [h1, if_false]
  refine Prod.ext ?_ ?_
  · cases lo with
    | none => rfl
    | some v => exact clip_eq v n 0
  · cases hi with
    | none => rfl
    | some v => exact clip_eq v n n
theorem places_gen (i j : Nat) : Builtin.Slice.slicePlaces (i : Int) (j : Int) 1 = j - i := by
  unfold Builtin.Slice.slicePlaces
  have h1 : (1 : Int) > 0 := by omega
  simp only [h1, if_true, Int.ediv_one]
  split <;> omega
theorem slicePart_ {v : Value} {o : Option Int} {Q : Option Int -> Shared -> Prop} (p : IsPart v o) (h : Q o s) : wpAny (model prog w) A (Builtin.Slice.slicePartIndex v) Q E s := by
  cases p with
  | none => exact slicePart_none h
  | int i t => exact slicePart_int h
theorem sliceApplied_gen {sl : Addr} {vl vu : Value} {lo hi : Option Int} {n : Nat} {Q : Int × Int × Nat -> Shared -> Prop} (hs : s.heap.IsSliceOf sl vl vu .none) (pl : IsPart vl lo) (pu : IsPart vu hi)
    (h : Q (((sIx n 0 lo : Nat) : Int), 1, sIx n n hi - sIx n 0 lo) s) : wpAny (model prog w) A (Builtin.Slice.sliceApplied (.ref sl) (pure (n : Int))) Q E s := by
  obtain ⟨os, hos, hcs, hds⟩ := id hs
  unfold Builtin.Slice.sliceApplied Builtin.Slice.sliceFields
  refine wpAny_bind (wpAny_bind (wpAny_field hos hds (x := vl) rfl (wpAny_bind (wpAny_field hos hds (x := vu) rfl (wpAny_bind (wpAny_field hos hds (x := .none) rfl (wpAny_pure ?_)))))))
  refine wpAny_bind (slicePart_none ?_)
  show wpAny _ _ (if ((1 : Int) == 0) = true then _ else _) _ _ s
  rw [if_neg (by decide)]
  refine wpAny_bind (slicePart_ pl (wpAny_bind (slicePart_ pu (wpAny_bind (wpAny_pure ?_)))))
  show wpAny _ _ (match Builtin.Slice.sliceAdjust lo hi 1 (n : Int) with | (lo, hi) => pure (lo, (1 : Int), Builtin.Slice.slicePlaces lo hi 1)) _ _ s
  rw [adjust_gen lo hi n]
  show wpAny _ _ (pure (((sIx n 0 lo : Nat) : Int), (1 : Int), Builtin.Slice.slicePlaces ((sIx n 0 lo : Nat) : Int) ((sIx n n hi : Nat) : Int) 1)) _ _ s
  rw [places_gen]
  exact wpAny_pure h
theorem pick_gen (xs : Array Value) (i k : Nat) : ((List.range k).filterMap fun (m : Nat) => xs[((i : Int) + (m : Int) * 1).toNat]?).toArray = ((xs.toList.drop i).take k).toArray := by
  have e : (fun (m : Nat) => xs[((i : Int) + (m : Int) * 1).toNat]?) = fun m => xs[i + m]? := by
    funext m
    have : ((i : Int) + (m : Int) * 1).toNat = i + m := by omega
    rw [this]
  rw [e]
  have := pick_run xs i k
  rw [List.filterMap_map] at this
  have e2 : ((fun x => xs[x]?) ∘ fun x => i + x) = fun m => xs[i + m]? := rfl
  rw [e2] at this
  rw [this]
theorem getItem_tuple_cut {t sl : Addr} {items : Array Value} {vl vu : Value} {lo hi : Option Int} {Q : Value -> Shared -> Prop} (ht : IsTup s.heap t items) (hs : s.heap.IsSliceOf sl vl vu .none) (pl : IsPart vl lo) (pu : IsPart vu hi)
    (hw : ¬ (sIx items.size 0 lo = 0 /\ sIx items.size items.size hi = items.size))
    (h : Q (.ref s.heap.objs.size) { s with heap := s.heap.push { cls := .type "tuple", data := .seq ((items.toList.drop (sIx items.size 0 lo)).take (sIx items.size items.size hi - sIx items.size 0 lo)).toArray } })
    (hsz : items.size <= sizeLine) : wpAny (model prog w) A (getItem (.ref t) (.ref sl)) Q E s := by
  have htake : sizeOk (.seq ((items.toList.drop (sIx items.size 0 lo)).take (sIx items.size items.size hi - sIx items.size 0 lo)).toArray) := by
    show ((items.toList.drop (sIx items.size 0 lo)).take (sIx items.size items.size hi - sIx items.size 0 lo)).toArray.size <= sizeLine
    rw [List.size_toArray, List.length_take, List.length_drop, Array.length_toList]
    omega
  have hj : sIx items.size items.size hi <= items.size := sIx_le _ _ (Nat.le_refl _) hi
  obtain ⟨os, hos, hcs, hds⟩ := id hs
  have hTs : s.TypeIs (.ref sl) "slice" := ⟨os, hos, hcs⟩
  unfold getItem
  try with_reducible refine wpAny_holding ?_
  first | refine wpAny_bind (wpAny_pure ?_) | skip
  refine wpAny_bind (wpAny_sequenceKey ht.typeIs (by decide) ?_)
  refine wpAny_bind (wpAny_callSpecial?_slot (name := Str.ofString "__getitem__") ht.typeIs PyProof.Rows.slot_tuple_getitem
    (wpAny_call_entry PyProof.Rows.slot_tuple_getitem ht.typeIs entry_tuple_getitem ?_ (args_tuple_getitem _ _)))
  show wpAny _ _ (Builtin.Tuple.tupleItemsOf (.ref t) >>= _) _ _ s
  refine wpAny_bind (tupleItemsOf_ ht ?_)
  refine wpAny_bind (wpAny_typeOf hTs ?_)
  rw [if_pos (by decide)]
  refine wpAny_bind (sliceApplied_gen hs pl pu ?_)
  have hno : ¬ ((((sIx items.size 0 lo : Nat) : Int) == 0 && (1 : Int) == 1 && (sIx items.size items.size hi - sIx items.size 0 lo) == items.size) = true) := by
    intro q
    rw [Bool.and_eq_true, Bool.and_eq_true] at q
    have q1 : ((sIx items.size 0 lo : Nat) : Int) = 0 := eq_of_beq q.1.1
    have q2 : sIx items.size items.size hi - sIx items.size 0 lo = items.size := eq_of_beq q.2
    exact hw ⟨by omega, by omega⟩
  show wpAny _ _ (if (((sIx items.size 0 lo : Nat) : Int) == 0 && (1 : Int) == 1 && (sIx items.size items.size hi - sIx items.size 0 lo) == items.size) = true then _ else _) _ _ s
  rw [if_neg hno, pick_gen]
  first
    | exact wpAny_bind (m := Builtin.Tuple.tupleExact _) (wpAny_newObj_type (wpAny_pure ⟨_, rfl, wpAny_pure h⟩) htake)
    | exact wpAny_bind (m := Builtin.Tuple.tupleExact _) (wpAny_newObj_type (wpAny_bind (wpAny_pure (wpAny_pure ⟨_, rfl, wpAny_pure h⟩))) htake)
    | exact wpAny_bind (wpAny_bind (m := Builtin.Tuple.tupleExact _) (wpAny_newObj_type (wpAny_pure (wpAny_pure ⟨_, rfl, wpAny_pure h⟩)) htake))
    | exact wpAny_bind (wpAny_bind (m := Builtin.Tuple.tupleExact _) (wpAny_newObj_type (wpAny_pure ⟨_, rfl, wpAny_pure h⟩) htake))
end
end HT
namespace L2
open PySem PySem.Spec PyProof.Rows
noncomputable abbrev TO := St -> Hp -> (Option Int -> Hp -> Prop) -> Prop
noncomputable def PO (X : Cx) (e : Option Expr) (t : TO) : Prop :=
  ∀ (pins : List (Addr × Obj)) (s : Shared) (σ : St) (H : Hp) (Q : Option Int -> Hp -> Prop), Inv X pins σ H s -> t σ H Q ->
    wpAny (model X.prog X.w) X.A (evalPart e X.env) (fun u s' => ∃ o H', Inv X pins σ H' s' /\ IsPart u o /\ Q o H') X.xe s
noncomputable def tNoPart : TO := fun _ H Q => Q none H
noncomputable def tPart (t : TE) : TO := fun σ H Q => t σ H fun x H1 => ∃ i, x = .int i /\ Q (some i) H1
section
variable {X : Cx} {e : Expr} {te : TE} {lo hi : Option Expr} {tl th : TO} {pos p2 : Pos}
theorem po_none : PO X none tNoPart := by
  intro pins s σ H Q I h
  rw [evalPart_none]
  exact wpAny_pure ⟨none, H, I, .none, h⟩
theorem po_some (h : PE X e te) : PO X (some e) (tPart te) := by
  intro pins s σ H Q I hw
  rw [evalPart_some]
  refine thn (h pins s σ H _ I hw) fun u s1 ⟨x, H1, I1, r1, q1⟩ => ?_
  obtain ⟨i, rfl, q⟩ := q1
  obtain ⟨t, rfl⟩ := r1
  exact ⟨some i, H1, I1, .int i t, q⟩
noncomputable def SlR (X : Cx) (r : V -> Option Int -> Option Int -> Hp -> VK -> Prop) : Prop :=
  ∀ (pins : List (Addr × Obj)) (s : Shared) (σ : St) (H : Hp) (x : V) (v vl vu : Value) (lo hi : Option Int) (sl : Addr) (Q : VK), Inv X pins σ H s -> RelV x v -> s.heap.IsSliceOf sl vl vu .none -> IsPart vl lo -> IsPart vu hi -> r x lo hi H Q ->
    ∃ T id, typeLookup (.type T) "__getitem__" = pure (some (.builtin id)) /\ s.TypeIs v T /\ wpAny (model X.prog X.w) X.A (getItem v (.ref sl)) (EP X pins σ Q) X.xe s
noncomputable def tSl (r : V -> Option Int -> Option Int -> Hp -> VK -> Prop) (te : TE) (tl th : TO) : TE := fun σ H Q => te σ H fun x H1 => tl σ H1 fun l H2 => th σ H2 fun u H3 => r x l u H3 Q
theorem pe_slice {r : V -> Option Int -> Option Int -> Hp -> VK -> Prop} (hr : SlR X r) (he : PE X e te) (hl : PO X lo tl) (hu : PO X hi th) : PE X (.Subscript e (.Slice lo hi none p2) pos) (tSl r te tl th) := by
  intro pins s σ H Q I h
  refine Subscript_ (thn (he pins s σ H _ I h) fun v s1 ⟨x, H1, I1, r1, q1⟩ => ?_)
  refine wpAny_Slice (thn (hl pins s1 σ H1 _ I1 q1) fun vl s2 ⟨l, H2, I2, pl, q2⟩ => thn (hu pins s2 σ H2 _ I2 q2) fun vu s3 ⟨u, H3, I3, pu, q3⟩ => ?_)
  rw [evalPart_none]
  refine wpAny_pure ?_
  have I4 : Inv X pins σ H3 { s3 with heap := s3.heap.push { cls := .type "slice", data := .fields #[vl, vu, .none] } } := I3.kept (t' := s3.toks) fun b ob q => Heap.get?_push_of_some _ q
  obtain ⟨T, id, hT, ht, hg⟩ := hr pins { s3 with heap := s3.heap.push { cls := .type "slice", data := .fields #[vl, vu, .none] } } σ H3 x v vl vu l u s3.heap.objs.size Q I4 r1 (Heap.IsSliceOf.new ..) pl pu q3
  show wpAny (model X.prog X.w) X.A (subscriptTail e (.Slice lo hi none p2) v (.ref s3.heap.objs.size)) (EP X pins σ Q) X.xe { s3 with heap := s3.heap.push { cls := .type "slice", data := .fields #[vl, vu, .none] } }
  exact tail_any (ops := [.ref s3.heap.objs.size, v]) ht hT hg (by with_unfolding_all rfl)
noncomputable def cutV (xs : List V) (lo hi : Option Int) : List V := (xs.drop (HT.sIx xs.length 0 lo)).take (HT.sIx xs.length xs.length hi - HT.sIx xs.length 0 lo)
theorem cutV_length (xs : List V) (lo hi : Option Int) : (cutV xs lo hi).length <= xs.length := by
  unfold cutV
  rw [List.length_take, List.length_drop]
  omega
theorem Vals.nil_iff {xs : List V} {us : List Value} (r : Vals xs us) : us = [] ↔ xs = [] := by
  cases r with
  | nil => simp
  | cons _ _ => simp
end
end L2
namespace L2
open PySem PySem.Spec PyProof.Rows
noncomputable def ixN (n : Nat) (i : Int) : Option Nat := if 0 <= i then (if i < n then some i.toNat else none) else if -(n : Int) <= i then some (i + n).toNat else none
noncomputable def atI {α : Type} (xs : List α) (i : Int) : Option α := (ixN xs.length i).bind fun j => xs[j]?
theorem ixN_seq {n : Nat} {i : Int} {j : Nat} (h : ixN n i = some j) : seqIndex? i n = some j /\ j < n /\ -(n : Int) <= i /\ i < n := by
  unfold ixN at h
  by_cases h0 : 0 <= i
  · rw [if_pos h0] at h
    by_cases h1 : i < n
    · rw [if_pos h1] at h
      have e : i.toNat = j := Option.some.inj h
      exact ⟨by rw [seqIndex_of h0 h1, e], by omega, by omega, h1⟩
    · rw [if_neg h1] at h; cases h
  · rw [if_neg h0] at h
    by_cases h1 : -(n : Int) <= i
    · rw [if_pos h1] at h
      have e : (i + n).toNat = j := Option.some.inj h
      exact ⟨by rw [seqIndex_neg (by omega) h1, e], by omega, h1, by omega⟩
    · rw [if_neg h1] at h; cases h
theorem atI_get {α : Type} {xs : List α} {i : Int} {v : α} (h : atI xs i = some v) : ∃ j, seqIndex? i xs.length = some j /\ xs[j]? = some v /\ j < xs.length /\ -(xs.length : Int) <= i /\ i < xs.length := by
  unfold atI at h
  cases e : ixN xs.length i with
  | none => rw [e] at h; cases h
  | some j =>
    rw [e] at h
    obtain ⟨h1, h2, h3, h4⟩ := ixN_seq e
    exact ⟨j, h1, h, h2, h3, h4⟩
theorem atI_nat {α : Type} {xs : List α} {j : Nat} {v : α} (h : xs[j]? = some v) : atI xs (j : Int) = some v := by
  have hj : j < xs.length := (List.getElem?_eq_some_iff.mp h).1
  have e : ixN xs.length (j : Int) = some j := by
    unfold ixN
    rw [if_pos (by omega), if_pos (by omega)]; simp
  unfold atI; rw [e]; exact h
noncomputable def PlainIx (b : Expr) : Prop := ∀ o i, subscripted b false o i = operate [o, i] (getItem o i)
noncomputable def IxR (X : Cx) (r : R2) : Prop :=
  ∀ (value slice : Expr) (pins : List (Addr × Obj)) (s : Shared) (σ : St) (H : Hp) (x y : V) (v u : Value) (Q : VK), Inv X pins σ H s -> RelV x v -> RelV y u -> r x y H Q ->
    subscripted slice false v u = operate [v, u] (getItem v u) -> wpAny (model X.prog X.w) X.A (subscriptTail value slice v u) (EP X pins σ Q) X.xe s
noncomputable def MtR (X : Cx) (id : String) (r : V -> List V -> Hp -> VK -> Prop) : Prop :=
  ∀ (pins : List (Addr × Obj)) (s : Shared) (σ : St) (H : Hp) (x : V) (xs : List V) (v : Value) (us : List Value) (Q : VK), Inv X pins σ H s -> RelV x v -> Vals xs us -> r x xs H Q ->
    wpAny (model X.prog X.w) X.A (call (.builtin id) (v :: us)) (EP X pins σ Q) X.xe s
section
variable {X : Cx} {a b : Expr} {ta tb : TE} {pos : Pos}
theorem pe_ix {r : R2} (hr : IxR X r) (ha : PE X a ta) (hb : PE X b tb) (hs : PlainIx b) : PE X (.Subscript a b pos) (tOp r ta tb) := by
  intro pins s σ H Q I h
  exact Subscript_ (binT ha hb I h fun v u s2 x y H2 I2 rx ry q => hr a b pins s2 σ H2 x y v u Q I2 rx ry q (hs _ _))
noncomputable def rIxL (K : PySem.W.Frag) : R2 := fun x y H Q => ∃ p xs i v, x = .ref p /\ y = .int i /\ SqL K H p xs /\ atI xs i = some v /\ Q v H
noncomputable def rIxT (K : PySem.W.Frag) : R2 := fun x y H Q => ∃ p xs i v, x = .ref p /\ y = .int i /\ SqT K H p xs /\ atI xs i = some v /\ Q v H
noncomputable def rIxS : R2 := fun x y H Q => ∃ z i c, x = .str z /\ y = .int i /\ z.length <= sizeLine /\ atI z.cps.toList i = some c /\ Q (.str ⟨#[c]⟩) H
theorem ix_list : IxR X (rIxL X.K) := by
  intro value slice pins s σ H x y v u Q I rx ry h hs
  obtain ⟨p, xs, i, z, rfl, rfl, hq, he, q⟩ := h
  cases rx
  obtain ⟨t, rfl⟩ := ry
  obtain ⟨its, r, pl, hz⟩ := I.list hq
  obtain ⟨j, h1, h2, h3, h4, h5⟩ := atI_get he
  obtain ⟨w, ew, rw'⟩ := r.get h2
  have hl := r.length
  have hn := line63
  have fin : EP X pins σ Q w s := ⟨z, H, I, rw', q⟩
  by_cases h0 : 0 <= i
  · have hj : i.toNat = j := by
      rw [seqIndex_of h0 h5] at h1
      exact Option.some.inj h1
    exact item_listR pl.isList h0 (by omega) (by rw [hj]; simpa using ew) fin hs
  · have hj : (i + (its.toArray.size : Int)).toNat = j := by
      rw [seqIndex_neg (by omega) h4] at h1
      rw [List.size_toArray, <- hl]
      exact Option.some.inj h1
    exact subscriptTail_builtinR (x := w) pl.isList.typeIs slot_list_getitem.lookup
      (wpAny_getItem_list_neg (Q := fun r s' => r = w /\ EP X pins σ Q r s') pl.isList (by omega) (by rw [List.size_toArray] <;> omega) (by omega) (by rw [hj]; simpa using ew) ⟨rfl, fin⟩) hs
theorem ix_tup : IxR X (rIxT X.K) := by
  intro value slice pins s σ H x y v u Q I rx ry h hs
  obtain ⟨p, xs, i, z, rfl, rfl, hq, he, q⟩ := h
  cases rx
  obtain ⟨t, rfl⟩ := ry
  obtain ⟨its, r, pl, hz⟩ := I.tuple hq
  obtain ⟨j, h1, h2, h3, h4, h5⟩ := atI_get he
  obtain ⟨w, ew, rw'⟩ := r.get h2
  have hl := r.length
  have hn := line63
  have fin : EP X pins σ Q w s := ⟨z, H, I, rw', q⟩
  exact subscriptTail_builtinR (x := w) pl.typeIs slot_tuple_getitem.lookup
    (getItem_tuple (j := j) (Q := fun r s' => r = w /\ EP X pins σ Q r s') pl (by omega) (by omega) (by rw [List.size_toArray, <- hl]; exact h1) (by simpa using ew) ⟨rfl, fin⟩) hs
theorem ix_str : IxR X rIxS := by
  intro value slice pins s σ H x y v u Q I rx ry h hs
  obtain ⟨z, i, c, rfl, rfl, hz, he, q⟩ := h
  obtain ⟨t, rfl⟩ := rx
  obtain ⟨t', rfl⟩ := ry
  obtain ⟨j, h1, h2, h3, h4, h5⟩ := atI_get he
  have hl : z.cps.toList.length = z.length := by simp [Str.length]
  rw [hl] at h1 h4 h5
  have hn := line63
  exact tail_any (typeIs_str s z t) slot_str_getitem.lookup (getItem_str (c := c) (by
    have e1 : decide (i < -(2 ^ 63 : Int)) = false := decide_eq_false (by omega)
    have e2 : decide (i ≥ 2 ^ 63) = false := decide_eq_false (by omega)
    rw [e1, e2, Bool.or_false]) (by rw [h1]; simpa using h2) ⟨.str ⟨#[c]⟩, H, I.tok _, ⟨_, rfl⟩, q⟩) hs
theorem mapSeq_set (its : List Value) (n j : Nat) (u : Value) : Obj.mapSeq (·.setIfInBounds j u) { cls := .type "list", data := .seq its.toArray n } = { cls := .type "list", data := .seq (its.set j u).toArray n } := by
  simp [Obj.mapSeq]
theorem Inv.lst {pins : List (Addr × Obj)} {σ : St} {H : Hp} {s : Shared} {p : Addr} {xs : List V} (I : Inv X pins σ H s) (h : H p = some (.lst xs)) :
    ∃ (its : List Value) (n : Nat), Vals xs its /\ s.heap.get? p = some { cls := .type "list", data := .seq its.toArray n } /\ xs.length <= sizeLine := by
  obtain ⟨z, its, n, r, e⟩ := I.hok p _ h
  exact ⟨its, n, r, e, z⟩
theorem Inv.lstUpd {pins : List (Addr × Obj)} {σ : St} {H : Hp} {s : Shared} {p : Addr} {xs ys : List V} {its its' : List Value} {n n' : Nat} {f : Obj -> Obj} (I : Inv X pins σ H s) (h : H p = some (.lst xs))
    (ho : s.heap.get? p = some { cls := .type "list", data := .seq its.toArray n }) (hf : f { cls := .type "list", data := .seq its.toArray n } = { cls := .type "list", data := .seq its'.toArray n' }) (r : Vals ys its') (hz : ys.length <= sizeLine) (t : Nat) :
    Inv X pins σ (upd H p (.lst ys)) { s with heap := s.heap.update p f, toks := t } := by
  have e : (s.heap.update p f).get? p = some { cls := .type "list", data := .seq its'.toArray n' } := by
    rw [Heap.get?_update_self f ho (by rw [hf] <;> rfl), hf]
  refine I.write (x := p) (e := p) (by rw [h]; trivial) (.inl rfl) (fun b u hb q => (Heap.get?_update_other _ _ (Ne.symm hb)).trans q) ⟨_, e⟩ ?_
  exact ⟨hz, its', n', r, e⟩
noncomputable def rSetL : V -> V -> V -> Hp -> (Hp -> Prop) -> Prop := fun o i v H Q => ∃ p xs k j, o = .ref p /\ i = .int k /\ H p = some (.lst xs) /\ ixN xs.length k = some j /\ Q (upd H p (.lst (xs.set j v)))
theorem set_list : PSet X rSetL := by
  intro pins s σ H o i v ov iv u Q I ro ri rv h
  obtain ⟨p, xs, k, j, rfl, rfl, hp, hj, q⟩ := h
  cases ro
  obtain ⟨t, rfl⟩ := ri
  obtain ⟨its, n, r, ho, hz⟩ := I.lst hp
  obtain ⟨h1, h2, h3, h4⟩ := ixN_seq hj
  have hl := r.length
  have hn := line63
  have I' : Inv X pins σ (upd H p (.lst (xs.set j v))) { s with heap := s.heap.update p (Obj.mapSeq (·.setIfInBounds j u)) } :=
    I.lstUpd hp ho (mapSeq_set its n j u) (r.set rv j) (by rw [List.length_set]; exact hz) s.toks
  by_cases h0 : 0 <= k
  · have hk : k.toNat = j := by
      rw [seqIndex_of h0 h4] at h1
      exact Option.some.inj h1
    exact PySem.W.ki_setAt ho h0 (by omega) (by rw [List.size_toArray, <- hl]; exact h4) (by rw [hk]; exact ⟨_, I', q⟩)
  · have hk : (k + (its.toArray.size : Int)).toNat = j := by
      rw [seqIndex_neg (by omega) h3] at h1
      rw [List.size_toArray, <- hl]
      exact Option.some.inj h1
    exact PySem.W.ki_setBack ho (by omega) (by rw [List.size_toArray, <- hl]; exact h3) (by omega) (by rw [hk]; exact ⟨_, I', q⟩)
noncomputable def flatV : V -> Bool
  | .non => true
  | .bl _ => true
  | .int _ => true
  | .str _ => true
  | _ => false
noncomputable def eqV : V -> V -> Bool
  | .non, .non => true
  | .bl a, .bl b => a == b
  | .bl a, .int b => (if a then 1 else 0) == b
  | .int a, .bl b => a == (if b then 1 else 0)
  | .int a, .int b => a == b
  | .str a, .str b => a == b
  | _, _ => false
theorem eqAt_V {A : Around} {s : Shared} {y x : V} {u v : Value} (ry : RelV y u) (rx : RelV x v) (fy : flatV y = true) (fx : flatV x = true) : SeqAt.EqAt A s u v (eqV y x) := by
  cases y with
  | non =>
    cases ry
    cases x with
    | non => cases rx; exact SeqAt.EqAt.same _
    | bl b => cases rx; exact SeqAt.EqAt.none_bool b
    | int b => obtain ⟨t, rfl⟩ := rx; exact SeqAt.EqAt.none_int b t
    | str b => obtain ⟨t, rfl⟩ := rx; exact SeqAt.EqAt.none_str b t
    | _ => exact absurd (show false = true from fx) Bool.false_ne_true
  | bl a =>
    cases ry
    cases x with
    | non => cases rx; exact SeqAt.EqAt.bool_none a
    | bl b => cases rx; exact SeqAt.EqAt.bool_bool a b
    | int b => obtain ⟨t, rfl⟩ := rx; exact SeqAt.EqAt.bool_int a b t
    | str b => obtain ⟨t, rfl⟩ := rx; exact SeqAt.EqAt.bool_str a b t
    | _ => exact absurd (show false = true from fx) Bool.false_ne_true
  | int a =>
    obtain ⟨t', rfl⟩ := ry
    cases x with
    | non => cases rx; exact SeqAt.EqAt.int_none a t'
    | bl b => cases rx; exact SeqAt.EqAt.int_bool a t' b
    | int b => obtain ⟨t, rfl⟩ := rx; exact SeqAt.EqAt.int_int a t' b t
    | str b => obtain ⟨t, rfl⟩ := rx; exact SeqAt.EqAt.int_str a t' b t
    | _ => exact absurd (show false = true from fx) Bool.false_ne_true
  | str a =>
    obtain ⟨t', rfl⟩ := ry
    cases x with
    | non => cases rx; exact SeqAt.EqAt.str_none a t'
    | bl b => cases rx; exact SeqAt.EqAt.str_bool a t' b
    | int b => obtain ⟨t, rfl⟩ := rx; exact SeqAt.EqAt.str_int a t' b t
    | str b => obtain ⟨t, rfl⟩ := rx; exact SeqAt.EqAt.str_str a t' b t
    | _ => exact absurd (show false = true from fx) Bool.false_ne_true
  | _ => exact absurd (show false = true from fy) Bool.false_ne_true
noncomputable def eqU (x : V) (u : Value) : Bool := match u with
  | .none => eqV .non x
  | .bool b => eqV (.bl b) x
  | .int i _ => eqV (.int i) x
  | .str z _ => eqV (.str z) x
  | _ => false
theorem eqU_of {x y : V} {u : Value} (r : RelV y u) (f : flatV y = true) : eqU x u = eqV y x := by
  cases y with
  | non => cases r; rfl
  | bl b => cases r; rfl
  | int i => obtain ⟨t, rfl⟩ := r; rfl
  | str z => obtain ⟨t, rfl⟩ := r; rfl
  | _ => exact absurd (show false = true from f) Bool.false_ne_true
theorem any_eqU {x : V} : ∀ {xs : List V} {us : List Value}, Vals xs us -> xs.all flatV = true -> us.any (eqU x) = xs.any fun y => eqV y x
  | _, _, .nil, _ => rfl
  | y :: xs, u :: us, .cons r t, f => by
    rw [List.all_cons, Bool.and_eq_true] at f
    rw [List.any_cons, List.any_cons, eqU_of r f.1, any_eqU t f.2]
theorem mem_eqAt {A : Around} {s : Shared} {x : V} {v : Value} (rx : RelV x v) (fx : flatV x = true) : ∀ {xs : List V} {us : List Value}, Vals xs us -> xs.all flatV = true -> ∀ u ∈ us, SeqAt.EqAt A s u v (eqU x u)
  | _, _, .nil, _ => fun u hu => by cases hu
  | y :: xs, u :: us, .cons r t, f => fun u' hu => by
    rw [List.all_cons, Bool.and_eq_true] at f
    rcases List.mem_cons.mp hu with rfl | hu
    · rw [eqU_of r f.1]; exact eqAt_V r rx f.1 fx
    · exact mem_eqAt rx fx t f.2 u' hu
noncomputable def inV (x : V) (xs : List V) : Bool := xs.any fun y => eqV y x
noncomputable def rIn (K : PySem.W.Frag) (neg : Bool) : R2 := fun x y H Q => ∃ p xs, y = .ref p /\ (SqL K H p xs \/ SqT K H p xs) /\ flatV x = true /\ xs.all flatV = true /\ Q (.bl (if neg then !inV x xs else inV x xs)) H
theorem op_in_seq : OpR X (compareOp .In) (rIn X.K false) := by
  intro pins s σ H x y v u Q I rx ry h
  obtain ⟨p, xs, rfl, hq, fx, fs, q⟩ := h
  cases ry
  rcases hq with hq | hq
  · obtain ⟨its, r, pl, hz⟩ := I.list hq
    refine SeqAt.in_listAt (eqU x) pl.isList (fun w hw => mem_eqAt rx fx r fs w (by simpa using hw)) ⟨.bl _, H, I, rfl, ?_⟩
    rw [show its.toArray.any (eqU x) = its.any (eqU x) by simp, any_eqU r fs]
    exact q
  · obtain ⟨its, r, pl, hz⟩ := I.tuple hq
    refine SeqAt.in_tupleAt (eqU x) pl (fun w hw => mem_eqAt rx fx r fs w (by simpa using hw)) ⟨.bl _, H, I, rfl, ?_⟩
    rw [show its.toArray.any (eqU x) = its.any (eqU x) by simp, any_eqU r fs]
    exact q
theorem op_notIn_str : OpR X (compareOp .NotIn) (fun x y H Q => ∃ i j, x = .str i /\ y = .str j /\ Q (.bl (!(!(Builtin.Str.occurrences j i 0 j.length 1).isEmpty))) H) := by
  intro pins s σ H x y v u Q I rx ry h
  obtain ⟨i, j, rfl, rfl, q⟩ := h
  obtain ⟨t, rfl⟩ := rx
  obtain ⟨t', rfl⟩ := ry
  exact notIn_str ⟨.bl _, H, I, rfl, q⟩
theorem call_len_seq : CallR X (.builtin "len") (fun xs H Q => ∃ p ys, xs = [.ref p] /\ (SqL X.K H p ys \/ SqT X.K H p ys) /\ Q (.int ys.length) H) := by
  intro pins s σ H xs us Q I r h
  obtain ⟨p, ys, rfl, hq, q⟩ := h
  obtain ⟨u, rfl, rx⟩ := vals1 r
  cases rx
  have hn := line63
  rcases hq with hq | hq
  · obtain ⟨its, r', pl, hz⟩ := I.list hq
    have hlen := r'.length
    exact Calls.call_len_list pl.isList (by simp only [List.size_toArray] <;> omega) ⟨.int ys.length, H, I.tok _, ⟨s.toks + 1, by rw [List.size_toArray, hlen]⟩, q⟩
  · obtain ⟨its, r', pl, hz⟩ := I.tuple hq
    have hlen := r'.length
    exact len_tuple pl (by simp only [List.size_toArray] <;> omega) ⟨.int ys.length, H, I.tok _, ⟨s.toks + 1, by rw [List.size_toArray, hlen]⟩, q⟩
theorem call_len_str : CallR X (.builtin "len") (fun xs H Q => ∃ z, xs = [.str z] /\ z.length <= sizeLine /\ Q (.int z.length) H) := by
  intro pins s σ H xs us Q I r h
  obtain ⟨z, rfl, hz, q⟩ := h
  obtain ⟨u, rfl, t, rfl⟩ := vals1 r
  have hn := line63
  exact len_str (by omega) ⟨.int z.length, H, I.tok _, ⟨_, rfl⟩, q⟩
theorem call_list_of : CallR X (.type "list") (fun xs H Q => ∃ p ys, xs = [.ref p] /\ (SqL X.K H p ys \/ SqT X.K H p ys) /\ ∀ l, H l = none -> Q (.ref l) (upd H l (.lst ys))) := by
  intro pins s σ H xs us Q I r h
  obtain ⟨p, ys, rfl, hq, q⟩ := h
  obtain ⟨u, rfl, rx⟩ := vals1 r
  cases rx
  have fin : ∀ (its : List Value), Vals ys its -> ys.length <= sizeLine -> ∀ (h' : Heap) (c' : Nat), (∀ b o', s.heap.get? b = some o' -> h'.get? b = some o') ->
      h'.get? s.heap.objs.size = some { cls := .type "list", dict := none, data := .seq its.toArray c', slots := #[] } -> EP X pins σ Q (.ref s.heap.objs.size) { s with heap := h' } := fun its r' hz h' c' kp e =>
    ⟨.ref s.heap.objs.size, _, I.laid (t' := s.toks) kp (Nat.le_refl _) (show ObjOk X.prog X.w _ h' _ (.lst ys) from ⟨hz, its, c', r', e⟩), rfl, q _ (I.hok.fresh (Nat.le_refl _))⟩
  rcases hq with hq | hq
  · obtain ⟨its, r', pl, hz⟩ := I.list hq
    have hlen := r'.length
    obtain ⟨o, ho, hc, n, hd⟩ := pl.isList
    exact call_list_seq p (.inl rfl) ho hc hd (fun h' c' kp e => fin its r' hz h' c' kp e) (by simp only [List.size_toArray] <;> omega)
  · obtain ⟨its, r', pl, hz⟩ := I.tuple hq
    have hlen := r'.length
    obtain ⟨o, ho, hc, n, hd⟩ := pl
    exact call_list_seq p (.inr rfl) ho hc hd (fun h' c' kp e => fin its r' hz h' c' kp e) (by simp only [List.size_toArray] <;> omega)
theorem call_tuple_of : CallR X (.type "tuple") (fun xs H Q => ∃ p ys, xs = [.ref p] /\ ((SqL X.K H p ys /\ ∀ l, H l = none -> Q (.ref l) (upd H l (.tup ys))) \/ (SqT X.K H p ys /\ Q (.ref p) H))) := by
  intro pins s σ H xs us Q I r h
  obtain ⟨p, ys, rfl, h⟩ := h
  obtain ⟨u, rfl, rx⟩ := vals1 r
  cases rx
  rcases h with ⟨hq, q⟩ | ⟨hq, q⟩
  · obtain ⟨its, r', pl, hz⟩ := I.list hq
    have hlen := r'.length
    refine call_tuple_list pl.isList (fun h' kp => ?_) (by simp only [List.size_toArray] <;> omega)
    have I1 : Inv X pins σ H { s with heap := h' } := I.kept (t' := s.toks) kp
    have I2 : Inv X pins σ (upd H h'.objs.size (.tup ys)) { s with heap := h'.push { cls := .type "tuple", data := .seq its.toArray } } :=
      I1.laid (t' := s.toks) (fun b o e => Heap.get?_push_of_some _ e) (Nat.le_refl _) (show ObjOk X.prog X.w _ _ _ (.tup ys) from ⟨hz, its, r', IsTup.new _ _⟩)
    exact ⟨.ref h'.objs.size, _, I2, rfl, q _ (I1.hok.fresh (Nat.le_refl _))⟩
  · obtain ⟨its, r', pl, hz⟩ := I.tuple hq
    exact call_tuple_same pl ⟨.ref p, H, I, rfl, q⟩
noncomputable def tyV (K : PySem.W.Frag) (T : String) (x : V) (H : Hp) : Prop := match x with
  | .str _ => T = "str"
  | .int _ => T = "int"
  | .ref p => (T = "list" /\ ∃ xs, SqL K H p xs) \/ (T = "tuple" /\ ∃ o, K.lookup p = some o /\ o.cls = .type "tuple" /\ o.dict = none) \/
      (T = "dict" /\ ((∃ kvs, H p = some (.dK kvs)) \/ ∃ kvs, H p = some (.dT kvs))) \/ (T = "set" /\ ∃ S n, H p = some (.set S n))
  | _ => False
theorem tyV_is {pins : List (Addr × Obj)} {σ : St} {H : Hp} {s : Shared} {T : String} {x : V} {v : Value} (I : Inv X pins σ H s) (r : RelV x v) (ty : tyV X.K T x H) :
    s.TypeIs v T /\ ∀ a, v = .ref a -> ∃ ob, s.heap.get? a = some ob /\ ob.dict = none := by
  cases x with
  | str z =>
    obtain ⟨t, rfl⟩ := r
    cases (show T = "str" from ty)
    exact ⟨typeIs_str s z t, fun _ e => nomatch e⟩
  | int i =>
    obtain ⟨t, rfl⟩ := r
    cases (show T = "int" from ty)
    exact ⟨typeIs_int s i t, fun _ e => nomatch e⟩
  | ref p =>
    cases r
    rcases ty with ⟨rfl, xs, hq⟩ | ⟨rfl, o, hk, hc, hd⟩ | ⟨rfl, hk⟩ | ⟨rfl, S, n, hk⟩
    · obtain ⟨its, _, pl, _⟩ := I.list hq
      refine ⟨pl.isList.typeIs, fun a e => ?_⟩
      cases e
      obtain ⟨o, n, e, c, hd, _⟩ := pl
      exact ⟨o, e, hd⟩
    · refine ⟨⟨o, I.kIn p o hk, hc⟩, fun a e => ?_⟩
      cases e
      exact ⟨o, I.kIn _ o hk, hd⟩
    · have z : ∃ o, s.heap.get? p = some o /\ o.ExactDict := by
        rcases hk with ⟨kvs, hk⟩ | ⟨kvs, hk⟩
        · obtain ⟨_, _, _, _, o, _, _, e, ex, _⟩ := I.hok p _ hk
          exact ⟨o, e, ex⟩
        · obtain ⟨_, _, _, _, o, _, _, e, ex, _⟩ := I.hok p _ hk
          exact ⟨o, e, ex⟩
      obtain ⟨o, e, ex⟩ := z
      refine ⟨⟨o, e, ex.1⟩, fun a e2 => ?_⟩
      cases e2
      exact ⟨o, e, ex.2.1⟩
    · obtain ⟨o, _, _, _, e, ex, _⟩ := I.hok p _ hk
      refine ⟨⟨o, e, ex.1⟩, fun a e2 => ?_⟩
      cases e2
      exact ⟨o, e, ex.2.1⟩
  | _ => exact False.elim ty
noncomputable def tBM0 (K : PySem.W.Frag) (T : String) (r : V -> List V -> Hp -> VK -> Prop) (to : TE) : TE := fun σ H Q => to σ H fun x H1 => tyV K T x H1 /\ r x [] H1 Q
noncomputable def tBM (K : PySem.W.Frag) (T : String) (r : V -> List V -> Hp -> VK -> Prop) (to : TE) (t : TA) : TE := fun σ H Q => to σ H fun x H1 => tyV K T x H1 /\ t σ H1 fun xs H2 => r x xs H2 Q
variable {o e : Expr} {es : List Expr} {to : TE} {t : TA} {name : Str} {apos cpos : Pos} {T id : String} {r : V -> List V -> Hp -> VK -> Prop}
theorem pe_bm0 (pa : PlainAttrs T) (slot : Slot T name id) (hty : typeOf (.builtin id) = pure (.type "method_descriptor")) (hm : MtR X id r) (ho : PE X o to)
    (hbase : attributeBase o name X.env (eval o X.env) = eval o X.env := by rfl) (hline : (apos.endLine == cpos.line) = true := by rfl) : PE X (.Call (.Attribute o name apos) [] [] cpos) (tBM0 X.K T r to) := by
  intro pins s σ H Q I h
  refine wpAny_Call_method0_late hbase hline (thn (ho pins s σ H _ I h) fun v s1 ⟨x, H1, I1, r1, ty, q1⟩ => ?_)
  obtain ⟨h1, h2⟩ := tyV_is I1 r1 ty
  exact ⟨T, id, pa, slot, hty, h1, h2, Calls.callWith_builtin rfl (PySem.evalArgs_none (hm pins s1 σ H1 x [] v [] Q I1 r1 .nil q1))⟩
theorem pe_bm (pa : PlainAttrs T) (slot : Slot T name id) (hty : typeOf (.builtin id) = pure (.type "method_descriptor")) (hm : MtR X id r) (ho : PE X o to) (ha : PA X (e :: es) t)
    (hbase : attributeBase o name X.env (eval o X.env) = eval o X.env := by rfl)
    (hfew : ((backTo cpos (starEach (e :: es) X.env)).all (fun x => !x.1) && (backToKw cpos (keywordEach [] X.env)).all (fun x => x.1.isSome)
      && decide ((e :: es).length + ([] : List Keyword).length + (if ([] : List Keyword).isEmpty then 0 else 1) < 30)) = true := by rfl)
    (hline : (apos.endLine == cpos.line) = true := by rfl) (hs : starEach (e :: es) X.env = (false, eval e X.env) :: starEach es X.env := by rfl) (hplain : (backTo cpos (starEach es X.env)).any (·.1) = false := by rfl) :
    PE X (.Call (.Attribute o name apos) (e :: es) [] cpos) (tBM X.K T r to t) := by
  intro pins s σ H Q I h
  refine wpAny_Call_method_late hbase hfew hline rfl (thn (ho pins s σ H _ I h) fun v s1 ⟨x, H1, I1, r1, ty, q1⟩ => ?_)
  obtain ⟨h1, h2⟩ := tyV_is I1 r1 ty
  refine ⟨T, id, pa, slot, hty, h1, h2, ?_⟩
  have hA := ha cpos pins s1 σ H1 _ I1 q1
  rw [hs] at hA ⊢
  refine Calls.callWith_builtin (by show (false || (backTo cpos (starEach es X.env)).any (·.1)) = false; rw [hplain] <;> rfl) (Calls.evalArgs_plain ?_)
  exact thn hA fun us s2 ⟨vs, H2, I2, r2, q2⟩ => hm pins s2 σ H2 x vs v us Q I2 r1 r2 q2
/- xs.append(e), list.index on a module's tuple .. are MtR facts of 06m -/
end
end L2
namespace L2
open PySem PySem.Spec PyProof.Rows
noncomputable def MtM (X : Cx) (id : String) (r : V -> List V -> Hp -> VK -> Prop) : Prop :=
  ∀ (pins : List (Addr × Obj)) (s : Shared) (σ : St) (H : Hp) (x : V) (xs : List V) (v : Value) (us : List Value) (Q : VK), Inv X pins σ H s -> RelV x v -> Vals xs us -> r x xs H Q ->
    wpAny (model X.prog X.w) X.A (call (.builtin id) (v :: us)) (EP X pins σ Q) X.xe s
theorem Vals.one : ∀ {x : V} {us : List Value}, Vals [x] us -> ∃ u, us = [u] /\ RelV x u
  | _, _, .cons r .nil => ⟨_, rfl, r⟩
theorem Vals.eraseIdx : ∀ {xs : List V} {us : List Value} (i : Nat), Vals xs us -> Vals (xs.eraseIdx i) (us.eraseIdx i)
  | _, _, _, .nil => .nil
  | _, _, 0, .cons _ t => t
  | _, _, i + 1, .cons r t => .cons r (Vals.eraseIdx i t)
theorem Vals.reverse {xs : List V} {us : List Value} (h : Vals xs us) : Vals xs.reverse us.reverse := by
  induction h with
  | nil => exact .nil
  | cons r t ih => rw [List.reverse_cons, List.reverse_cons]; exact Vals.append ih (.cons r .nil)
theorem len_erase {α : Type} : ∀ (l : List α) (i : Nat), (l.eraseIdx i).length <= l.length
  | [], _ => Nat.le_refl _
  | _ :: _, 0 => Nat.le_succ _
  | _ :: r, i + 1 => Nat.succ_le_succ (len_erase r i)
section
variable {X : Cx} {pins : List (Addr × Obj)} {σ : St} {H : Hp} {s : Shared} {l b : Addr} {xs ys zs : List V}
theorem Inv.lset {its its' : List Value} {n : Nat} {f : Array Value -> Array Value} {t' : Nat} (I : Inv X pins σ H s) (hH : H l = some (.lst xs))
    (e : s.heap.get? l = some { cls := .type "list", data := .seq its.toArray n }) (hf : f its.toArray = its'.toArray) (hv : Vals ys its') (hz : ys.length <= sizeLine) :
    Inv X pins σ (upd H l (.lst ys)) { s with heap := s.heap.update l (Obj.mapSeq f), toks := t' } := by
  have q := PySem.IsL.update e f
  rw [hf] at q
  refine I.write (x := l) (e := l) (by rw [hH]; exact trivial) (.inl rfl) (fun b' u hb hu => (Heap.get?_update_other s.heap (Obj.mapSeq f) (Ne.symm hb)).trans hu) ⟨_, q⟩ ?_
  exact ⟨hz, its', _, hv, q⟩
theorem Inv.lnew {its : List Value} {t' : Nat} (I : Inv X pins σ H s) (hv : Vals ys its) (hz : ys.length <= sizeLine) :
    Inv X pins σ (upd H s.heap.objs.size (.lst ys)) { s with heap := s.heap.push { cls := .type "list", data := .seq its.toArray }, toks := t' } :=
  I.laid (fun _ _ q => Heap.get?_push_of_some _ q) (Nat.le_refl _) ⟨hz, its, 0, hv, Heap.get?_push_size _ rfl⟩
theorem Inv.fresh (I : Inv X pins σ H s) : H s.heap.objs.size = none := I.hok.fresh (Nat.le_refl _)
theorem Inv.lstM (I : Inv X pins σ H s) (hH : H l = some (.lst xs)) : xs.length <= sizeLine /\ ∃ (its : List Value) (n : Nat), Vals xs its /\ xs.length = its.length /\ s.heap.get? l = some { cls := .type "list", data := .seq its.toArray n } := by
  obtain ⟨z, its, n, r, e⟩ := I.hok l _ hH
  exact ⟨z, its, n, r, r.length, e⟩
theorem notLongL {n : Nat} (h : n <= sizeLine) : Builtin.List.listTooLong n = false := by
  unfold Builtin.List.listTooLong
  exact decide_eq_false (by omega)
end
section
variable {X : Cx}
noncomputable def rAppend : V -> List V -> Hp -> VK -> Prop := fun x vs H Q => ∃ l xs y, x = .ref l /\ vs = [y] /\ H l = some (.lst xs) /\ xs.length < sizeLine /\ Q .non (upd H l (.lst (xs ++ [y])))
theorem mt_append : MtM X "list.append" rAppend := by
  intro pins s σ H x vs v us Q I rx rv h
  obtain ⟨l, xs, y, rfl, rfl, hH, hz, q⟩ := h
  cases rx
  obtain ⟨u, rfl, ru⟩ := rv.one
  obtain ⟨z, its, n, r, hl, e⟩ := I.lstM hH
  refine call_meets F.slot_list_append ⟨_, e, rfl⟩ F.entry_list_append (F.args_list_append_2 _ _) (PySem.list_append l its.toArray n u (by rw [List.size_toArray]; omega)) ⟨e, ?_⟩
  refine ⟨.non, _, I.lset (its' := its ++ [u]) hH e (by simp) (r.append (.cons ru .nil)) ?_, rfl, q⟩
  rw [List.length_append, List.length_singleton]
  omega
noncomputable def rExtend : V -> List V -> Hp -> VK -> Prop := fun x vs H Q => ∃ l b xs zs, x = .ref l /\ vs = [.ref b] /\ H l = some (.lst xs) /\ H b = some (.lst zs) /\ xs.length + zs.length <= sizeLine /\ Q .non (upd H l (.lst (xs ++ zs)))
theorem mt_extend : MtM X "list.extend" rExtend := by
  intro pins s σ H x vs v us Q I rx rv h
  obtain ⟨l, b, xs, zs, rfl, rfl, hH, hB, hz, q⟩ := h
  cases rx
  obtain ⟨u, rfl, ru⟩ := rv.one
  cases ru
  obtain ⟨z, its, n, r, hl, e⟩ := I.lstM hH
  obtain ⟨z2, its2, n2, r2, hl2, e2⟩ := I.lstM hB
  have hsz : its.toArray.size + its2.toArray.size <= sizeLine := by rw [List.size_toArray, List.size_toArray]; omega
  have hlong : ¬ (!its.toArray.isEmpty && Builtin.List.listTooLong (its.toArray.size + its2.toArray.size)) = true := by
    rw [notLongL hsz, Bool.and_false]
    exact Bool.false_ne_true
  refine call_meets F.slot_list_extend ⟨_, e, rfl⟩ F.entry_list_extend (F.args_list_extend_2 _ _)
    (AutoSeq1.list_extend_list_list_0 l its.toArray n b its2.toArray n2 hlong (by rw [List.size_toArray]; omega) (by omega)) ⟨e, e2, ?_⟩
  refine ⟨.non, _, I.lset (its' := its ++ its2) hH e (by simp) (r.append r2) ?_, rfl, q⟩
  rw [List.length_append]
  omega
noncomputable def rPopAt : V -> List V -> Hp -> VK -> Prop := fun x vs H Q => ∃ l xs i k y, x = .ref l /\ vs = [.int i] /\ H l = some (.lst xs) /\ -(2 ^ 63) <= i /\ i < 2 ^ 63 /\ seqIndex? i xs.length = some k /\ xs[k]? = some y /\ Q y (upd H l (.lst (xs.eraseIdx k)))
theorem mt_popAt : MtM X "list.pop" rPopAt := by
  intro pins s σ H x vs v us Q I rx rv h
  obtain ⟨l, xs, i, k, y, rfl, rfl, hH, h1, h2, hk, hy, q⟩ := h
  cases rx
  obtain ⟨u, rfl, ru⟩ := rv.one
  obtain ⟨t, rfl⟩ := ru
  obtain ⟨z, its, n, r, hl, e⟩ := I.lstM hH
  obtain ⟨w, hw, rw'⟩ := r.get hy
  refine call_meets F.slot_list_pop ⟨_, e, rfl⟩ F.entry_list_pop (F.args_list_pop_2 _ _)
    (MeetsSeq.list_pop_at l its.toArray n i t k w (fitsIndex_both h1 h2) (by rw [List.size_toArray, <- hl]; exact hk) (by rw [<- Array.getElem?_toList]; exact hw) (by rw [List.size_toArray]; omega)) ⟨e, ?_⟩
  refine ⟨y, _, I.lset (its' := its.eraseIdx k) hH e ?_ (r.eraseIdx k) ?_, rw', q⟩
  · show its.toArray.eraseIdxIfInBounds k = (its.eraseIdx k).toArray
    rw [List.eraseIdxIfInBounds_toArray]
  · have := len_erase xs k
    omega
noncomputable def rCat : R2 := fun x y H Q => ∃ l b xs zs, x = .ref l /\ y = .ref b /\ H l = some (.lst xs) /\ H b = some (.lst zs) /\ xs.length + zs.length <= sizeLine /\ ∀ p, H p = none -> Q (.ref p) (upd H p (.lst (xs ++ zs)))
theorem op_cat : OpR X (binaryOp .Add) rCat := by
  intro pins s σ H x y v u Q I rx ry h
  obtain ⟨l, b, xs, zs, rfl, rfl, hH, hB, hz, q⟩ := h
  cases rx
  cases ry
  obtain ⟨z, its, n, r, hl, e⟩ := I.lstM hH
  obtain ⟨z2, its2, n2, r2, hl2, e2⟩ := I.lstM hB
  refine PySem.P.add_list e e2 ?_ (by rw [List.size_toArray, List.size_toArray]; omega)
  have ea : its.toArray ++ its2.toArray = (its ++ its2).toArray := by simp
  rw [ea]
  exact ⟨.ref _, _, I.lnew (t' := s.toks) (r.append r2) (by rw [List.length_append]; omega), rfl, q _ I.fresh⟩
end
section
variable {prog : Program} {w : World} {A : Around} {E : Value -> Shared -> Prop} {s : Shared}
end
section
variable {X : Cx}
end
end L2
namespace Att
open PySem PySem.W PySem.Calls PyProof.Rows
theorem ints_of_wellAll {P : Params} {h : Heap} : ∀ (ns : List Int) (vs : List Value), WellAll P h vs (ns.map WData.int) -> IntsAre vs ns := by
  intro ns
  induction ns with
  | nil =>
    intro vs w
    rw [List.map_nil] at w
    cases w
    exact .nil
  | cons n ns ih =>
    intro vs w
    rw [List.map_cons] at w
    cases w with
    | cons a b =>
      cases a
      exact .cons _ _ (ih _ b)
theorem script_of {l : OpenLaw} {n : Nat} (hn : l.most = some n) {P : Params} {h : Heap} {args : List WData} {vals : List Value}
    (hpre : l.row.toRowW.claim.pre args = true) (hwl : WellAll P h vals args) :
    ∃ a vs ns, vals = [Value.ref a] /\ args = [WData.list (ns.map WData.int)] /\ h.get? a = some { cls := .type "list", data := .seq vs.toArray } /\ IntsAre vs ns /\ ns.length <= n := by
  have hsh : WShape.hasAll [] args [.list .int] = true := (pre_splitW hpre).1
  have hc : l.pre.holds [] { args := args } = true := (pre_splitW hpre).2
  obtain ⟨d, r, rfl, h1, h2⟩ := hasAllW_cons hsh
  obtain rfl := hasAllW_nil h2
  obtain ⟨xs, rfl, h3⟩ := hasW_list h1
  obtain ⟨ns, rfl⟩ := items_int h3
  have hlen : ns.length <= n := by
    unfold OpenLaw.pre at hc
    have h4 : (WTm.not (.lt (.lit (.int (n : Int))) (.len (.arg 0)))).holds [] { args := [.list (ns.map .int)] } = true := by
      have h4 := (holds_andW hc).1
      rw [hn] at h4
      exact h4
    have h5 := condW_of h4 (w_not (w_lt w_lit (w_len_list (w_arg rfl))))
    rw [List.length_map] at h5
    refine Nat.le_of_not_lt fun q => ?_
    have q' : (n : Int) < ((ns.length : Nat) : Int) := by omega
    first
      | (rw [decide_eq_true q'] at h5; exact absurd h5 (by decide))
      | (simp at h5; omega)
  cases hwl with
  | cons w1 w2 =>
    cases w2
    cases w1 with
    | list ho hall => exact ⟨_, _, ns, rfl, rfl, ho, ints_of_wellAll ns _ hall, hlen⟩
theorem post_true (l : OpenLaw) (args : List WData) : l.row.toRowW.claim.post args (.bool true) args = true :=
  postW_of (r := l.row.toRowW) (X := (true == true))
    (show WShape.has [] (.bool true) .bool = true by first | rfl | decide | simp [WShape.has, WShape.arms, WShape.armsAll])
    (show (WTm.eq .res (.lit (.bool true))).value [] { args := args, res := some (.bool true), after := args } = some (.bool (true == true)) from w_eq_bool (w_res rfl) w_lit) rfl
theorem attach_call {l : OpenLaw} {n : Nat} {q : Program} {loose : List Str} {XP : (Str -> Option Value) -> Heap -> Prop} {YP : World -> Heap -> Prop} {d : DefRec}
    (hn : l.most = some n) (hdf : d.params.defaults = [])
    (call : ∀ (w : World) (s₀ s₁ : Shared) (mg mb : Str -> Option Value) (fa : Addr) (o : Obj) (pm cd doc : Value) (a : Addr) (vs : List Value) (ns : List Int),
      Ground q loose [] XP w s₀ mg mb s₁.heap -> YP w s₁.heap ->
      s₁.heap.get? fa = some o -> o.data = .func (docDef d.name d.params d.body d.scope pm cd doc) -> s₁.heap.CodeRec cd d.name -> mg d.name = some (.ref fa) ->
      s₁.heap.get? a = some { cls := .type "list", data := .seq vs.toArray } -> IntsAre vs ns -> ns.length <= n -> s₁.gens = #[] ->
      codeAny (model l.prog w) callerA (.call (.ref fa) ⟨[.ref a], []⟩) (fun r s' => r = .ok (.ret (.bool true)) /\ OldK s₁.heap s'.heap /\ s'.os = s₁.os /\ AllBare s'.gens) s₁) :
    WalkO q loose XP YP l.row.toRowW d [] (fun f vs => PySem.call f vs) := by
  intro w s₀ s₁ mg mb G Y fa o pm cd doc dV kV ho hd hcd hD hmg hg args vals as hpre hlay hrd hwl hlo
  obtain rfl : dV = .none := Dflts.none hD hdf
  obtain rfl : kV = .none := Dflts.noKw hD
  obtain ⟨a, vs, ns, rfl, rfl, hobj, hints, hlen⟩ := script_of hn hpre hwl
  refine enter_call (codeAny_mono (call w s₀ s₁ mg mb fa o pm cd doc a vs ns G Y ho (fd_plain hd) hcd hmg hobj hints hlen hg) fun r s' hq => ?_)
  obtain ⟨rfl, h2, h3, h4⟩ := hq
  exact ⟨.inl ⟨.bool true, .bool true, [], rfl, fun _ => rfl, .bool true, post_true l _, fun _ => ⟨List.Pairwise.nil, fun _ hm => (nomatch hm)⟩⟩, h2, h3, h4⟩
section
variable {prog : Program} {w : World} {A : Around} {E : Value -> Shared -> Prop} {s : Shared} {K : Frag}
noncomputable def ledger (h : Heap) (L d : Addr) : List (Addr × Obj) := (List.range h.objs.size).filterMap fun a => if a = L \/ a = d then none else (h.get? a).map fun o => (a, o)
end
end Att
namespace L2
open PySem PySem.Spec PyProof.Rows
theorem vals_ints : ∀ {vs : List Value} {ns : List Int}, IntsAre vs ns -> Vals (ns.map V.int) vs
  | _, _, .nil => .nil
  | _, _, .cons n t h => .cons ⟨t, rfl⟩ (vals_ints h)
noncomputable def Only (H : Hp) : Prop := ∀ b, H b = none \/ ∃ o xs, H b = some (.frz o (.lst xs))
theorem law_call {P : Program} {w : World} {K : PySem.W.Frag} {mg mb : Str -> Option Value} {CX : CXT} {k : Nat} {fa a : Addr} {fd : FuncData} {x : Str} {sp : Sp} {s₁ : Shared} {vs : List Value} {ns : List Int}
    (KX : K.In s₁.heap) (hns : s₁.heap.Ns mainGlobals mg) (hb : s₁.heap.Ns builtinsNs mb) (hbb : ∀ x : Str, x ≠ "__name__" -> mb x = bootBuiltins x) (hlim : s₁.heap.NoLimit) (hg : s₁.gens = #[])
    (ha : s₁.heap.get? a = some { cls := .type "list", data := .seq vs.toArray }) (hi : IntsAre vs ns) (hl : ns.length <= sizeLine) (hr : Room k callerA)
    (F : ∀ base : Heap, K.In base -> base.Ns mainGlobals mg -> FnOk P w K mg base CX k fa fd [x] sp) (hbind : ∀ (s : Shared) (u : Value), BindsTo s fd ⟨[u], []⟩ [(x, u)])
    (hsp : ∀ H : Hp, Only H -> SqL K H a (ns.map V.int) -> sp [.ref a] H (fun v _ => v = .bl true) fun _ _ _ => False)
    (hCX : ∀ H e s', CX [] H s₁ (fun _ _ _ => False) e s' -> False) :
    codeAny (model P w) callerA (.call (.ref fa) ⟨[.ref a], []⟩) (fun r s' => r = .ok (.ret (.bool true)) /\ OldK s₁.heap s'.heap /\ s'.os = s₁.os /\ AllBare s'.gens) s₁ := by
  have rv := vals_ints hi
  have lenV := hi.length
  -- from an abstract heap in which nothing but the script may be tracked
  have core : ∀ H : Hp, Only H -> SqL K H a (ns.map V.int) -> HOk P w H s₁.heap -> (∀ b, H b ≠ none -> b = a) -> (H a ≠ none -> K.lookup a = none) ->
      codeAny (model P w) callerA (.call (.ref fa) ⟨[.ref a], []⟩) (fun r s' => r = .ok (.ret (.bool true)) /\ OldK s₁.heap s'.heap /\ s'.os = s₁.os /\ AllBare s'.gens) s₁ := by
    intro H hO hS hok hA hK
    have base_of : ∀ {b : Addr} {o : Obj}, s₁.heap.get? b = some o -> H b = none -> (hidT s₁.heap H).get? b = some o := fun e n => hidT_get e n
    have noA : ∀ {b : Addr} {o : Obj} {es : Array DictEntry} {ep : Nat}, s₁.heap.get? b = some o -> o.data = .dict es ep -> H b = none := fun {b o es ep} e d => by
      cases q : H b with
      | none => rfl
      | some u =>
        have e' : b = a := hA b (by rw [q]; simp)
        subst e'
        rw [ha] at e; cases e
        have d' : Data.seq vs.toArray _ = Data.dict es ep := d
        cases d'
    have nsK : ∀ {b : Addr} {m : Str -> Option Value}, s₁.heap.Ns b m -> (hidT s₁.heap H).Ns b m := fun {b m} ⟨o, es, ep, e, d, r⟩ => ⟨o, es, ep, base_of e (noA e d), d, r⟩
    have hKb : K.In (hidT s₁.heap H) := fun b o e => base_of (KX b o e) (by
      cases q : H b with
      | none => rfl
      | some u =>
        have e' : b = a := hA b (by rw [q]; simp)
        subst e'
        rw [hK (by rw [q]; simp)] at e; cases e)
    have hM : Mod K mg (hidT s₁.heap H) := ⟨hKb, nsK hns, ⟨mb, nsK hb, hbb⟩, let ⟨mc, h1, h2⟩ := hlim; ⟨mc, nsK h1, h2⟩⟩
    have e0 : Env0 P w K mg (hidT s₁.heap H) callerA [] s₁ H := ⟨rfl, hM, fun b o e => of_hidT e, Nat.le_of_eq (hidT_size _ _), trivial, fun b hb => absurd (show b ∈ ([] : List Addr) from hb) (by simp), hok, .of_eq hg⟩
    refine codeAny_mono ((F _ hKb (nsK hns)).run callerA [] s₁ H ⟨[.ref a], []⟩ [.ref a] [.ref a] _ _ hr e0 (hbind s₁ (.ref a)) (.cons rfl .nil) (hsp H hO hS)) fun r s' h => ?_
    cases r with
    | error e => exact (hCX H e s' h).elim
    | ok fl =>
      cases fl with
      | next => exact False.elim h
      | brk => exact False.elim h
      | cont => exact False.elim h
      | ret u =>
        obtain ⟨v, H', os, bare, un, hok', r', q⟩ := h
        have q' : v = .bl true := q
        subst q'
        obtain rfl : u = Value.bool true := r'
        refine ⟨rfl, OldK.of_keep fun b o e => ?_, os, bare⟩
        cases q : H b with
        | none => exact un.keep b o e q (by intro z; exact absurd (show b ∈ ([] : List Addr) from z) (by simp)) (by simp)
        | some u =>
          rcases hO b with z | ⟨ob, xs, z⟩
          · rw [q] at z; cases z
          · have z2 := un.frzs b ob _ z
            obtain ⟨e1, _⟩ := hok b _ z
            obtain ⟨e2, _⟩ := hok' b _ z2
            rw [e] at e1; cases e1
            exact e2
  cases hk : K.lookup a with
  | some o =>
    -- the script is one of the module's own objects
    have e := KX a o hk
    rw [ha] at e
    cases e
    refine core (fun _ => none) (fun _ => .inl rfl) (.inr ⟨_, vs.toArray, _, hk, rfl, rfl, rfl, by rw [List.size_toArray, lenV]; exact hl, by simpa using rv⟩) (fun b u z => by have z' : (none : Option HO) = some u := z; cases z') (fun b z => absurd rfl z) fun z => absurd rfl z
  | none =>
    refine core (fun b => if b = a then some (.frz { cls := .type "list", data := .seq vs.toArray } (.lst (ns.map V.int))) else none) (fun b => ?_) (.inl (.inr ⟨{ cls := .type "list", data := .seq vs.toArray }, if_pos rfl⟩)) (fun b u z => ?_) (fun b z => ?_) fun _ => hk
    · by_cases hb : b = a
      · exact .inr ⟨_, _, if_pos hb⟩
      · exact .inl (if_neg hb)
    · by_cases hb : b = a
      · have z' := (if_pos hb).symm.trans z
        cases z'
        subst hb
        exact ⟨ha, by rw [List.length_map]; exact hl, vs, _, rv, ha⟩
      · have z' := (if_neg hb).symm.trans z
        cases z'
    · by_cases hb : b = a
      · exact hb
      · exact absurd (if_neg hb) z
end L2
namespace L2
open PySem PySem.Spec PyProof.Rows
noncomputable abbrev KOf {K : PySem.W.Frag} {h : Heap} (_ : K.In h) : PySem.W.Frag := K
theorem walk_of {l : PySem.W.OpenLaw} {n k : Nat} {q : Program} {loose : List Str} {XP : (Str -> Option Value) -> Heap -> Prop} {YP : World -> Heap -> Prop} {d : DefRec} {K : Params -> PySem.W.Frag} {CX : World -> CXT} {sp : World -> Sp} {x : Str}
    (hn : l.most = some n) (hn2 : n <= sizeLine) (hdf : d.params.defaults = []) (hr : Room k callerA)
    (hY : ∀ (w : World) (h : Heap), YP w h -> (K w.params).In h)
    (F : ∀ (w : World) (mg : Str -> Option Value) (fa : Addr) (h : Heap), (K w.params).In h -> h.Ns mainGlobals mg -> mg d.name = some (.ref fa) ->
      ∃ fd : FuncData, (∀ (s : Shared) (u : Value), BindsTo s fd ⟨[u], []⟩ [(x, u)]) /\
        ∀ base : Heap, (K w.params).In base -> base.Ns mainGlobals mg -> FnOk l.prog w (K w.params) mg base (CX w) k fa fd [x] (sp w))
    (hsp : ∀ (w : World) (H : Hp) (a : Addr) (ns : List Int), ns.length <= n -> Only H -> SqL (K w.params) H a (ns.map V.int) -> sp w [.ref a] H (fun v _ => v = .bl true) fun _ _ _ => False)
    (hCX : ∀ (w : World) (H : Hp) (s : Shared) (e : Value) (s' : Shared), CX w [] H s (fun _ _ _ => False) e s' -> False) :
    PySem.W.WalkO q loose XP YP l.row.toRowW d [] (fun f vs => PySem.call f vs) := by
  refine Att.attach_call hn hdf fun w s₀ s₁ mg mb fa o pm cd doc a vs ns G Y ho hd hcd hmg hobj hints hlen hg => ?_
  have KX := hY w _ Y
  obtain ⟨fd, hb, hF⟩ := F w mg fa _ KX G.T.g hmg
  exact law_call KX G.T.g G.T.b G.T.builtins G.T.nolimit hg hobj hints (Nat.le_trans hlen hn2) hr hF hb (fun H hO hS => hsp w H a ns hlen hO hS) fun H e s' => hCX w H s₁ e s'
end L2
/- THE LAST THEOREM (shape; LID, My.* are yours):
   My.Adr: a structure of the addresses that your layer names (classes, functions); My.Txt K t: a structure (Prop) of the equations over K;
   My.txt_mk : {K} {implicit addresses ..} (e1 : nsIn K mainGlobals "law" = some (some (.ref f))) (e2 : K.lookup f = some ⟨oc, od, .func (fnOf "law" "law" params body scope dV kV doc pm an cdv ct), sl⟩) (e3 : codeIn K cdv "law" = true) .. : ∃ t, My.Txt K t
set_option maxRecDepth 100000 in
set_option maxHeartbeats 0 in
theorem PySem.Challenge.cw_LID_holds : PySem.Challenge.rw_LID.Holds := by
  w_on; o_law; k_head; (case hw => w_witness2)
  k_fill
  refine L2.walk_of (l := PySem.Challenge.rw_LID) (n := 63) (k := 40) (x := "script") (CX := fun w => ..) (sp := fun _ => My.sp_law) rfl (by decide) rfl ⟨rfl, by decide, by decide⟩ (fun w h Y => PySem.W.kIn_of Y) ?F ?S ?C
  case F =>
    intro w mg fa h KX G hmg
    have T : ∃ t, My.Txt (L2.KOf KX) t := by
      dsimp only [L2.KOf]                          -- K must stand as «<heap const> w.params» for k_is
      refine' My.txt_mk ?e1 ?e2 ?e3 ..
      (case e1 => PySem.W.k_is)                    -- in the order: a name -> its address -> its object -> its parts
      (case e2 => PySem.W.k_is)
      ..
    obtain ⟨t, T⟩ := T
    have e0 := hmg.symm.trans (PySem.W.mg_of KX G T.law)
    cases e0                                       -- fa is the law's own address
    exact ⟨_, fun s u => .of_eq rfl, fun base kb nb => My.law_fn T kb nb⟩     -- if «.of_eq rfl» comes too early: refine' ⟨_, ?b, fun base kb nb => My.law_fn T kb nb⟩; exact fun s u => .of_eq rfl
  case S => exact fun w H a ns hl hO hS => ..
  case C => exact ..
(the tactic k_is has no namespace: write k_is) -/
namespace L2
open PySem PySem.Spec PyProof.Rows
noncomputable def defArgs (s : Stmt) : Arguments := match s with
  | .FunctionDef _ a _ _ _ _ _ _ _ _ => a
  | _ => { posonlyargs := [], args := [], vararg := none, kwonlyargs := [], kw_defaults := [], kwarg := none, defaults := [] }
noncomputable def defBody (s : Stmt) : List Stmt := match s with
  | .FunctionDef _ _ b _ _ _ _ _ _ _ => b
  | _ => []
noncomputable def defScope (s : Stmt) : Scope := match s with
  | .FunctionDef _ _ _ _ _ _ sc _ _ _ => sc
  | _ => { kind := .function, names := [], isGenerator := false, isCoroutine := false }
noncomputable abbrev CX0 : CXT := fun _ _ _ _ _ _ => False
noncomputable abbrev E0 : XK := fun _ _ _ => False
theorem pass0 {X : Cx} : Passes CX0 X E0 := fun _ _ _ _ _ _ _ h => h.elim
structure Fun (K : PySem.W.Frag) (x qual : Str) (st : Stmt) (f : Addr) (fd : FuncData) : Prop where
  ex : ∃ (oc : Value) (od : Option Addr) (kV doc pm : Value) (an : Option Addr) (cdv ct : Value) (osl : Array (Option Value)),
    fd = PySem.W.fnOf x qual (defArgs st) (defBody st) (defScope st) .none kV doc pm an cdv ct /\ K.lookup f = some ⟨oc, od, .func fd, osl⟩ /\ PySem.W.codeIn K cdv qual = true
  kp : PySem.W.keepIn K (.ref f) = true
section
variable {P : Program} {w : World} {K : PySem.W.Frag} {mg : Str -> Option Value} {base : Heap}
theorem Fun.ok {x qual : Str} {st : Stmt} {f : Addr} {fd : FuncData} {N ps : List Str} {k : Nat} {sp : Sp} (F : Fun K x qual st f fd) (S : FnScope N ps (defScope st)) (len : ∀ vs H Q E, sp vs H Q E -> vs.length = ps.length)
    (hbody : ∀ (cdv : Value) (A : Around) (outer : List Env) (s : Shared) (H : Hp) (vs : List V) (Q : VK) (E : XK), Room k (A.deeper (envOfC qual (defScope st) s.heap.objs.size f cdv)) -> sp vs H Q E ->
      ∃ t, PSs (cxOf CX0 P w K mg base N qual (defScope st) f cdv A outer s H E).nox (defBody st) t /\ t { nx := fun _ H' => Q .non H', rt := Q } (start N vs) H) : FnOk P w K mg base CX0 (k + 1) f fd ps sp := by
  obtain ⟨oc, od, kV, doc, pm, an, cdv, ct, osl, rfl, lk, hcd⟩ := F.ex
  refine fn_of lk hcd S len fun A outer s H vs Q E hr hsp => ?_
  obtain ⟨t, h, q⟩ := hbody cdv A outer s H vs Q E hr hsp
  exact ⟨t, h.nox, q⟩
theorem Fun.binds {x qual : Str} {st : Stmt} {f : Addr} {fd : FuncData} {ps : List Str} (F : Fun K x qual st f fd)
    (h : ∀ (kV doc pm : Value) (an : Option Addr) (cdv ct : Value) (us : List Value), us.length = ps.length -> bindArgs (PySem.W.fnOf x qual (defArgs st) (defBody st) (defScope st) .none kV doc pm an cdv ct) ⟨us, []⟩ = pure (ps.zip us)) : Binds K fd ps [] := by
  obtain ⟨oc, od, kV, doc, pm, an, cdv, ct, osl, rfl, lk, hcd⟩ := F.ex
  exact .all (h kV doc pm an cdv ct)
theorem fun_mk {x qual : Str} {st : Stmt} {f : Addr} {oc : Value} {od an : Option Addr} {osl : Array (Option Value)} {kV doc pm cdv ct : Value} (l : K.lookup f = some ⟨oc, od, .func (PySem.W.fnOf x qual (defArgs st) (defBody st) (defScope st) .none kV doc pm an cdv ct), osl⟩)
    (c : PySem.W.codeIn K cdv qual = true) (k : PySem.W.keepIn K (.ref f) = true) : Fun K x qual st f (PySem.W.fnOf x qual (defArgs st) (defBody st) (defScope st) .none kV doc pm an cdv ct) := ⟨⟨oc, od, kV, doc, pm, an, cdv, ct, osl, rfl, l, c⟩, k⟩
end
theorem small1000 {n : Nat} (h : n <= 1000) : n < sizeLine := Nat.lt_of_le_of_lt h (by decide)
section
variable {X : Cx}
theorem pv (i : Nat) {x : Str} {pos : Pos} (hN : X.N[i]? = some x := by rfl) (hv : Vis X.env.scope x := by first | exact Or.inl rfl | exact Or.inr (Or.inl rfl) | exact Or.inr (Or.inr rfl)) (hd : (x == ("__debug__" : Str)) = false := by decide)
    (hcd : (x == ("__classdict__" : Str)) = false := by decide) : PE X (.Name x pos) (tVar i) := pe_var hN hv hd hcd
end
theorem iteF {A B : Prop} (h : B) : if false = true then A else B := by
  rw [if_neg Bool.false_ne_true]
  exact h
theorem iteT {A B : Prop} (h : A) : if true = true then A else B := by
  rw [if_pos rfl]
  exact h
theorem ite2 {c A B : Prop} [Decidable c] (h1 : c -> A) (h2 : ¬ c -> B) : if c then A else B := by
  by_cases h : c
  · rw [if_pos h]
    exact h1 h
  · rw [if_neg h]
    exact h2 h
noncomputable def Same (H H' : Hp) : Prop := ∀ b o, H b = some o -> H' b = some o
theorem Same.refl (H : Hp) : Same H H := fun _ _ h => h
theorem Same.trans {H H1 H2 : Hp} (a : Same H H1) (b : Same H1 H2) : Same H H2 := fun c o h => b c o (a c o h)
theorem Same.free {H H' : Hp} (e : Same H H') {l : Addr} (h : H' l = Option.none) : H l = Option.none := by
  cases q : H l with
  | none => rfl
  | some o =>
    rw [e l o q] at h
    cases h
theorem Same.seq {K : PySem.W.Frag} {H H' : Hp} {a : Addr} {xs : List V} (e : Same H H') (h : SqL K H a xs) : SqL K H' a xs := by
  rcases h with (h | ⟨o, h⟩) | h
  · exact .inl (.inl (e _ _ h))
  · exact .inl (.inr ⟨o, e _ _ h⟩)
  · exact .inr h
end L2
namespace L2
open PySem PySem.Spec PyProof.Rows
noncomputable def clOf (env : Env) : List (Str × NameKind) -> List (Str × Addr) -> List (Str × Addr)
  | [], acc => acc
  | (n, k) :: r, acc => clOf env r (if k == .free then (match env.cells.lookup n with | some a => (n, a) :: acc | none => acc) else acc)
theorem closureFor_loop {env : Env} : ∀ (names : List (Str × NameKind)) (acc : List (Str × Addr)), (∀ y ∈ names, y.2 = .free -> ∃ c, env.cells.lookup y.1 = some c) ->
    (forIn names acc fun (x : Str × NameKind) (cs : List (Str × Addr)) => (if (x.2 == NameKind.free) = true then do let a <- cellOf env x.1; pure (ForInStep.yield ((x.1, a) :: cs)) else pure (ForInStep.yield cs) : Sem (ForInStep (List (Str × Addr))))) = pure (clOf env names acc)
  | [], acc, _ => rfl
  | (n, k) :: r, acc, h => by
    rw [List.forIn_cons]
    have hr : ∀ y ∈ r, y.2 = .free -> ∃ c, env.cells.lookup y.1 = some c := fun y hy => h y (List.mem_cons_of_mem _ hy)
    cases hk : (k == NameKind.free) with
    | false =>
      have e1 : clOf env ((n, k) :: r) acc = clOf env r acc := by
        show clOf env r (if (k == NameKind.free) = true then (match env.cells.lookup n with | some a => (n, a) :: acc | none => acc) else acc) = _
        rw [hk, if_neg Bool.false_ne_true]
      rw [e1, <- closureFor_loop r acc hr]
      simp only [hk, Bool.false_eq_true, if_false, pure_bind]
    | true =>
      obtain ⟨c, hc⟩ := h (n, k) List.mem_cons_self (by simpa using hk)
      have e1 : clOf env ((n, k) :: r) acc = clOf env r ((n, c) :: acc) := by
        have hc' : env.cells.lookup n = some c := hc
        show clOf env r (if (k == NameKind.free) = true then (match env.cells.lookup n with | some a => (n, a) :: acc | none => acc) else acc) = _
        rw [hk, hc', if_pos rfl]
      have e2 : cellOf env n = pure c := by
        have hc' : env.cells.lookup n = some c := hc
        unfold cellOf
        rw [hc']
      rw [e1, <- closureFor_loop r ((n, c) :: acc) hr]
      simp only [hk, if_true, e2, pure_bind]
theorem closureFor_cl {scope : Scope} {env : Env} (h : ∀ y ∈ scope.names, y.2 = .free -> ∃ c, env.cells.lookup y.1 = some c) : closureFor scope env = pure (clOf env scope.names []) := by
  have e := closureFor_loop scope.names [] h
  simp only [closureFor]
  rw [e]
  rfl
theorem clOf_from {env : Env} {x : Str} {c : Addr} : ∀ (names : List (Str × NameKind)) (acc : List (Str × Addr)), (∀ y d, acc.lookup y = some d -> env.cells.lookup y = some d) -> (clOf env names acc).lookup x = some c -> env.cells.lookup x = some c
  | [], acc, ha, h => ha x c h
  | (n, k) :: r, acc, ha, h => by
    refine clOf_from r _ (fun y d q => ?_) h
    by_cases hk : (k == NameKind.free) = true
    · rw [if_pos hk] at q
      cases e : env.cells.lookup n with
      | none => rw [e] at q; exact ha y d q
      | some a =>
        rw [e] at q
        have q' : List.lookup y ((n, a) :: acc) = some d := q
        rw [List.lookup_cons] at q'
        cases hy : (y == n) with
        | true =>
          rw [hy] at q'
          have : y = n := by simpa using hy
          subst this
          rw [e]; exact q'
        | false => rw [hy] at q'; exact ha y d q'
    · rw [if_neg hk] at q; exact ha y d q
theorem clOf_acc {env : Env} {x : Str} : ∀ (names : List (Str × NameKind)) (acc : List (Str × Addr)), (∃ c, acc.lookup x = some c) -> ∃ c, (clOf env names acc).lookup x = some c
  | [], acc, h => h
  | (n, k) :: r, acc, ⟨c, hc⟩ => by
    refine clOf_acc r _ ?_
    by_cases hk : (k == NameKind.free) = true
    · rw [if_pos hk]
      cases e : env.cells.lookup n with
      | none => exact ⟨c, hc⟩
      | some a =>
        show ∃ c, List.lookup x ((n, a) :: acc) = some c
        rw [List.lookup_cons]
        cases hy : (x == n) with
        | true => exact ⟨a, rfl⟩
        | false => exact ⟨c, hc⟩
    · rw [if_neg hk]; exact ⟨c, hc⟩
theorem clOf_has {env : Env} {x : Str} : ∀ (names : List (Str × NameKind)) (acc : List (Str × Addr)), (∀ y ∈ names, y.2 = .free -> ∃ c, env.cells.lookup y.1 = some c) -> names.lookup x = some .free -> ∃ c, (clOf env names acc).lookup x = some c
  | [], acc, _, h => by simp at h
  | (n, k) :: r, acc, hf, h => by
    have hr : ∀ y ∈ r, y.2 = .free -> ∃ c, env.cells.lookup y.1 = some c := fun y hy => hf y (List.mem_cons_of_mem _ hy)
    rw [List.lookup_cons] at h
    cases hy : (x == n) with
    | true =>
      rw [hy] at h
      have hk : k = .free := Option.some.inj h
      subst hk
      have hx : x = n := by simpa using hy
      subst hx
      obtain ⟨c, hc⟩ := hf (x, .free) List.mem_cons_self rfl
      have hc' : env.cells.lookup x = some c := hc
      refine clOf_acc r _ ⟨c, ?_⟩
      rw [if_pos (show (NameKind.free == NameKind.free) = true by decide), hc']
      show List.lookup x ((x, c) :: acc) = some c
      rw [List.lookup_cons]
      simp
    | false =>
      rw [hy] at h
      exact clOf_has r _ hr h
theorem relabel_free {env : Env} : ∀ {names : List (Str × NameKind)} {x : Str}, names.lookup x = some .free ->
    ((names.map fun (n, k) => if (k == NameKind.free && env.scope.kind == .function && env.kindOf n == some .cell) then (n, NameKind.cell) else (n, k)).lookup x = some .cell \/
     (names.map fun (n, k) => if (k == NameKind.free && env.scope.kind == .function && env.kindOf n == some .cell) then (n, NameKind.cell) else (n, k)).lookup x = some .free)
  | [], _, h => by simp at h
  | (n, k) :: r, x, h => by
    have ih := @relabel_free env r x
    show (List.lookup x ((if (k == NameKind.free && env.scope.kind == .function && env.kindOf n == some .cell) = true then (n, NameKind.cell) else (n, k)) :: _) = _ \/ List.lookup x ((if (k == NameKind.free && env.scope.kind == .function && env.kindOf n == some .cell) = true then (n, NameKind.cell) else (n, k)) :: _) = _)
    cases hx : x == n with
    | true =>
      simp only [List.lookup_cons, hx] at h
      cases h
      by_cases hc : ((NameKind.free == NameKind.free) && env.scope.kind == .function && env.kindOf n == some .cell) = true
      · rw [if_pos hc]; simp [List.lookup_cons, hx]
      · rw [if_neg hc]; simp [List.lookup_cons, hx]
    | false =>
      simp only [List.lookup_cons, hx] at h
      by_cases hc : (k == NameKind.free && env.scope.kind == .function && env.kindOf n == some .cell) = true
      · rw [if_pos hc]; simp only [List.lookup_cons, hx]; exact ih h
      · rw [if_neg hc]; simp only [List.lookup_cons, hx]; exact ih h
theorem relabel_back {env : Env} : ∀ {names : List (Str × NameKind)} {x : Str}, (∀ y ∈ names, y.2 ≠ .cell) ->
    ((names.map fun (n, k) => if (k == NameKind.free && env.scope.kind == .function && env.kindOf n == some .cell) then (n, NameKind.cell) else (n, k)).lookup x = some .cell \/
     (names.map fun (n, k) => if (k == NameKind.free && env.scope.kind == .function && env.kindOf n == some .cell) then (n, NameKind.cell) else (n, k)).lookup x = some .free) -> names.lookup x = some .free
  | [], _, _, h => by simp at h
  | (n, k) :: r, x, hn, h => by
    have ih := @relabel_back env r x (fun y hy => hn y (List.mem_cons_of_mem _ hy))
    have hk := hn (n, k) List.mem_cons_self
    have h' : (List.lookup x ((if (k == NameKind.free && env.scope.kind == .function && env.kindOf n == some .cell) = true then (n, NameKind.cell) else (n, k)) :: (r.map fun (n, k) => if (k == NameKind.free && env.scope.kind == .function && env.kindOf n == some .cell) then (n, NameKind.cell) else (n, k))) = some .cell \/ List.lookup x ((if (k == NameKind.free && env.scope.kind == .function && env.kindOf n == some .cell) = true then (n, NameKind.cell) else (n, k)) :: (r.map fun (n, k) => if (k == NameKind.free && env.scope.kind == .function && env.kindOf n == some .cell) then (n, NameKind.cell) else (n, k))) = some .free) := h
    cases hx : x == n with
    | true =>
      rw [List.lookup_cons, hx]
      by_cases hc : (k == NameKind.free && env.scope.kind == .function && env.kindOf n == some .cell) = true
      · have : (k == NameKind.free) = true := by
          rw [Bool.and_eq_true, Bool.and_eq_true] at hc; exact hc.1.1
        have hk' : k = .free := by simpa using this
        rw [hk']
      · rw [if_neg hc] at h'
        simp only [List.lookup_cons, hx] at h'
        rcases h' with h' | h'
        · exact absurd (Option.some.inj h') hk
        · exact h'
    | false =>
      rw [List.lookup_cons, hx]
      by_cases hc : (k == NameKind.free && env.scope.kind == .function && env.kindOf n == some .cell) = true
      · rw [if_pos hc] at h'; simp only [List.lookup_cons, hx] at h'; exact ih h'
      · rw [if_neg hc] at h'; simp only [List.lookup_cons, hx] at h'; exact ih h'
noncomputable abbrev noE : Value -> Shared -> Prop := fun _ _ => False
theorem compLoop_gen {prog : Program} {w : World} {A : Around} {R : Result -> Shared -> Prop} {s : Shared} {elt target iter : Expr} {ifs : List Expr} {scope : Scope} {pos : Pos} {it acc : Value} {env : Env} (I : Nat -> Shared -> Prop)
    (turn : ∀ n s, I n s -> wpAny (model prog w) A (pyNext it) (fun r s₁ => match r with
      | none => R (.ok .next) s₁
      | some v => wpAny (model prog w) A (letOwnedTupleGo target it v) (fun _ s₁' => wpAny (model prog w) A (assign target env v) (fun _ s₂ =>
          wpAny (model prog w) A (forIn ifs true fun c r => if r = true then do let ok <- isTrue c env (eval c env); pure (ForInStep.yield ok) else pure (ForInStep.yield r)) (fun ok s₃ =>
            if ok = true then wpAny (model prog w) A (eval elt env) (fun x s₄ =>
              wpAny (model prog w) A (call (.builtin "list.append") [acc, x]) (fun _ s₅ => ∃ m, m < n /\ I m s₅) noE s₄) noE s₃
            else ∃ m, m < n /\ I m s₃) noE s₂) noE s₁') noE s₁) noE s)
    (n : Nat) (h : I n s) : codeAny (model prog w) A (.compLoop (.ListComp elt [⟨target, iter, ifs, 0⟩] scope pos) 0 it acc env) R s := by
  refine codeAny_loop rfl I (fun n s hI => ?_) n h
  show wpAny _ A ((compTurn (.ListComp elt [⟨target, iter, ifs, 0⟩] scope pos) 0 it acc env).onRaise (fun x => do noteFrame x env; theTreesLotGoes x)) _ _ s
  refine wpAny_noted ?_
  rw [compTurn_list]
  have no : ∀ {F : Value -> Shared -> Prop} (e : Value) (s' : Shared), noE e s' -> F e s' := fun _ _ h => h.elim
  refine wpAny_bind (wpAny_standAt (wpAny_bind (wpAny_mono (turn n s hI) (fun r s₁ h₁ => ?_) no)))
  cases r with
  | none => exact wpAny_pure h₁
  | some v =>
    refine wpAny_bind (wpAny_mono h₁ (fun _ s₁' h₁' => ?_) no)
    refine wpAny_bind (wpAny_mono h₁' (fun _ s₂ h₂ => wpAny_bind (wpAny_mono h₂ (fun ok s₃ h₃ => ?_) no)) no)
    cases ok with
    | false => exact wpAny_pure ⟨rfl, h₃⟩
    | true =>
      exact wpAny_bind (wpAny_bind (wpAny_mono h₃ (fun x s₄ h₄ => wpAny_bind (wpAny_mono h₄ (fun _ s₅ h₅ => wpAny_pure (wpAny_pure ⟨rfl, h₅⟩)) no)) no))
noncomputable def cxComp (X : Cx) (scope : Scope) (C : Addr) (Nc : List Str) (s : Shared) (H : Hp) (fp : List Addr) : Cx where
  prog := X.prog
  w := X.w
  K := X.K
  mg := X.mg
  base := X.base
  A := X.A
  N := Nc
  s₀ := s
  H₀ := H
  env := compEnvC scope (clOf X.env scope.names []) C X.env
  outer := X.stack
  stack := X.stack
  ex := fp
  fn := fun _ => false
  calm := X.calm
  pn := []
  xe := noE
noncomputable def IxOk (X : Cx) (scope : Scope) : List Str -> List (Option Nat) -> Prop
  | [], [] => True
  | _ :: ys, none :: os => IxOk X scope ys os
  | y :: ys, some j :: os => (X.N[j]? = some y /\ scope.names.lookup y = some .free /\ (X.env.kindOf y = some .cell \/ X.env.kindOf y = some .free)) /\ IxOk X scope ys os
  | _, _ => False
noncomputable def subSt (σ : St) (ix : List (Option Nat)) : St := ix.map fun o => match o with | none => none | some j => (σ[j]?).getD none
noncomputable def Wk : St -> St -> Prop
  | [], [] => True
  | none :: a, _ :: b => Wk a b
  | some v :: a, w :: b => w = some v /\ Wk a b
  | _, _ => False
theorem Wk.len : ∀ {a b : St}, Wk a b -> a.length = b.length
  | [], [], _ => rfl
  | none :: a, _ :: b, h => congrArg (· + 1) (Wk.len (a := a) (b := b) h)
  | some _ :: a, _ :: b, h => congrArg (· + 1) (Wk.len (a := a) (b := b) h.2)
theorem Wk.get : ∀ {a b : St} {i : Nat} {v : V}, Wk a b -> a[i]? = some (some v) -> b[i]? = some (some v)
  | [], [], i, v, _, h => by simp at h
  | none :: a, x :: b, 0, v, _, h => by simp at h
  | none :: a, x :: b, i + 1, v, k, h => by
    have := Wk.get (a := a) (b := b) (i := i) (v := v) k (by simpa using h)
    simpa using this
  | some y :: a, x :: b, 0, v, k, h => by
    have e : y = v := by simpa using h
    subst e
    simp [k.1]
  | some y :: a, x :: b, i + 1, v, k, h => by
    have := Wk.get (a := a) (b := b) (i := i) (v := v) k.2 (by simpa using h)
    simpa using this
theorem IxOk.len {X : Cx} {scope : Scope} : ∀ {N : List Str} {ix : List (Option Nat)}, IxOk X scope N ix -> ix.length = N.length
  | [], [], _ => rfl
  | _ :: ys, none :: os, h => congrArg (· + 1) (IxOk.len (N := ys) (ix := os) h)
  | _ :: ys, some _ :: os, h => congrArg (· + 1) (IxOk.len (N := ys) (ix := os) h.2)
theorem IxOk.get {X : Cx} {scope : Scope} : ∀ {N : List Str} {ix : List (Option Nat)} {i j : Nat}, IxOk X scope N ix -> ix[i]? = some (some j) -> ∃ y, N[i]? = some y /\ X.N[j]? = some y /\ scope.names.lookup y = some .free /\ (X.env.kindOf y = some .cell \/ X.env.kindOf y = some .free)
  | [], [], i, j, _, h => by simp at h
  | y :: ys, none :: os, 0, j, _, h => by simp at h
  | y :: ys, none :: os, i + 1, j, k, h => by
    obtain ⟨z, h1, h2⟩ := IxOk.get (N := ys) (ix := os) (i := i) (j := j) k (by simpa using h)
    exact ⟨z, by simpa using h1, h2⟩
  | y :: ys, some j' :: os, 0, j, k, h => by
    have e : j' = j := by simpa using h
    subst e
    exact ⟨y, by simp, k.1⟩
  | y :: ys, some j' :: os, i + 1, j, k, h => by
    obtain ⟨z, h1, h2⟩ := IxOk.get (N := ys) (ix := os) (i := i) (j := j) k.2 (by simpa using h)
    exact ⟨z, by simpa using h1, h2⟩
theorem subSt_get {σ : St} {ix : List (Option Nat)} {i : Nat} {v : V} (h : (subSt σ ix)[i]? = some (some v)) : ∃ j, ix[i]? = some (some j) /\ σ[j]? = some (some v) := by
  unfold subSt at h
  rw [List.getElem?_map] at h
  cases e : ix[i]? with
  | none => rw [e] at h; cases h
  | some o =>
    rw [e] at h
    cases o with
    | none => cases h
    | some j =>
      refine ⟨j, rfl, ?_⟩
      have h' : some ((σ[j]?).getD none) = some (some v) := h
      cases q : σ[j]? with
      | none => rw [q] at h'; cases h'
      | some z => rw [q] at h'; cases h'; rfl
end L2
namespace L2
open PySem PySem.Spec PyProof.Rows
theorem comp_start {X : Cx} {pins : List (Addr × Obj)} {σ : St} {H : Hp} {s : Shared} (I : Inv X pins σ H s) {scope : Scope} {Nc : List Str} {ix : List (Option Nat)} (hix : IxOk X scope Nc ix) (hcell : ∀ y ∈ scope.names, y.2 ≠ .cell)
    (hkind : scope.kind = .function) (hfr : ∀ y ∈ scope.names, y.2 = .free -> X.env.kindOf y.1 = some .cell \/ X.env.kindOf y.1 = some .free) {fp : List Addr} (hf : ∀ b ∈ fp, FpOk X pins H b) (hfo : ∀ b ∈ fp, ∃ o, s.heap.get? b = some o)
    {C : Addr} {h' : Heap} {t' : Nat} {m0 : Str -> Option Value} (hC : s.heap.objs.size <= C) (hns : h'.Ns C m0) (k : ∀ b o, s.heap.get? b = some o -> h'.get? b = some o) :
    Inv (cxComp X scope C Nc s H fp) [] (subSt σ ix) H { s with heap := h', toks := t' } := by
  have hfc : ∀ y ∈ scope.names, y.2 = .free -> ∃ c, X.env.cells.lookup y.1 = some c := fun y hy e => I.ok.has y.1 (hfr y hy e)
  have from_ : ∀ {x : Str} {c : Addr}, (clOf X.env scope.names []).lookup x = some c -> X.env.cells.lookup x = some c := fun {x c} e => clOf_from scope.names [] (fun y d q => by simp at q) e
  refine ⟨⟨I.ok.mod, hkind, I.ok.glob, I.ok.blt, hC, fun x y c h1 h2 => I.ok.inj x y c (from_ h1) (from_ h2), fun x hx => ?_, fun x c h => ?_, I.ok.hd, I.ok.frames, .inl rfl, fun b hb => ?_, I.bs, Nat.le_trans I.ok.bsz I.sz, fun b o e hb => ?_, fun b hb hs => ?_, I.stack, I.stkFree⟩,
    rfl, I.bare, Un.kept k, ⟨m0, hns, fun i x v h1 h2 h3 => ?_⟩, fun x c e => ?_, I.hok.fresh hC, fun x c e => I.freeC x c (from_ e), fun p hp => absurd (show p ∈ ([] : List (Addr × Obj)) from hp) (by simp), I.hok.kept k, ?_⟩
  · have hx' : scope.names.lookup x = some .free := relabel_back hcell hx
    exact clOf_has scope.names [] hfc hx'
  · exact absurd (show false = true from h) (by decide)
  · refine ⟨?_, fun x c e => (hf b hb).2.2.2.2.1 x c (from_ e)⟩
    obtain ⟨o, ho⟩ := hfo b hb
    exact Nat.ne_of_lt (Nat.lt_of_lt_of_le (Heap.lt_size ho) hC)
  · rcases (hf b hb).2.2.2.1 with z | z
    · exact I.ok.noex b o e z
    · exact absurd (Nat.lt_of_lt_of_le (Heap.lt_size e) (Nat.le_trans I.ok.bsz z)) (Nat.lt_irrefl _)
  · rcases List.mem_cons.mp (I.stkSub b hs) with z | z
    · exact (hf b hb).2.1 z
    · exact (hf b hb).2.2.1 z
  · obtain ⟨j, e1, e2⟩ := subSt_get h2
    obtain ⟨y, y1, y2, y3, y4⟩ := hix.get e1
    have h1' : Nc[i]? = some x := h1
    rw [y1] at h1'
    cases h1'
    obtain ⟨m, hn, hl⟩ := I.loc
    have hv : Vis X.env.scope x := by
      rcases y4 with z | z
      · exact .inr (.inl z)
      · exact .inr (.inr z)
    obtain ⟨u, r, l⟩ := hl j x v y2 e2 hv
    refine ⟨u, r, .inr ⟨relabel_free y3, ?_⟩⟩
    rcases l with ⟨l, _⟩ | ⟨_, c, hc, q⟩
    · rcases y4 with z | z
      · rw [z] at l; cases l
      · rw [z] at l; cases l
    · obtain ⟨c', hc'⟩ := clOf_has scope.names [] hfc y3
      have e := from_ hc'
      rw [hc] at e
      cases e
      obtain ⟨o, ho, hd⟩ := q
      exact ⟨c, hc', o, k _ _ ho, hd⟩
  · obtain ⟨v, o, ho, hd⟩ := I.cell x c (from_ e)
    exact ⟨v, o, k _ _ ho, hd⟩
  · show (subSt σ ix).length = Nc.length
    unfold subSt
    rw [List.length_map]
    exact hix.len
theorem comp_exit {X : Cx} {pins pins' : List (Addr × Obj)} {σ σ' : St} {H H' : Hp} {s s' : Shared} (I : Inv X pins σ H s) {scope : Scope} {Nc : List Str} {fp : List Addr} {C D : Addr} (J : Inv (cxComp X scope C Nc s H fp) pins' σ' H' s')
    (hf : ∀ b ∈ fp, FpOk X pins H b) (hD : s.heap.objs.size <= D) (hC : s.heap.objs.size <= C) (hDC : D ≠ C) {its : List Value} {n : Nat} {acc : List V} (eD : s'.heap.get? D = some { cls := .type "list", data := .seq its.toArray n }) (r : Vals acc its)
    (hz : acc.length <= sizeLine) (nD : H' D = none) {oC : Obj} (eC : s'.heap.get? C = some oC) (dC : ∀ v, oC.data ≠ .cell v) : Inv X (pins ++ [(C, oC)]) σ (upd H' D (.lst acc)) s' := by
  have lt : ∀ b o, s.heap.get? b = some o -> b ≠ D := fun b o e => Nat.ne_of_lt (Nat.lt_of_lt_of_le (Heap.lt_size e) hD)
  have U : Un (frs X.stack) fp H H' s.heap s'.heap := J.base
  have U' : Un (frs X.stack) fp H (upd H' D (.lst acc)) s.heap s'.heap :=
    ⟨U.keep, U.slot, fun b o e n hx => by rw [upd_ne (lt b o e)]; exact U.free b o e n hx, U.there, fun b xs e => by rw [upd_ne (ne_of_none (U.tups b xs e) nD)]; exact U.tups b xs e,
      fun b o u e => by rw [upd_ne (ne_of_none (U.frzs b o u e) nD)]; exact U.frzs b o u e, fun b ps e => by
        obtain ⟨more, q⟩ := U.tbls b ps e
        exact ⟨more, by rw [upd_ne (ne_of_none q nD)]; exact q⟩⟩
  have hok : HOk X.prog X.w (upd H' D (.lst acc)) s'.heap := fun b u e => by
    by_cases hb : b = D
    · subst hb
      rw [upd_same] at e; cases e
      exact ⟨hz, its, n, r, eD⟩
    · rw [upd_ne hb] at e
      exact (J.hok b u e).stay (fun c v _ q => q) (fun c q => by rw [upd_ne (ne_of_none q nD)]; exact q) fun c xs q => by rw [upd_ne (ne_of_none q nD)]; exact q
  have I' : Inv X pins σ (upd H' D (.lst acc)) s' := I.call' (ch := fp) J.os U' hok J.bare fun b hb => by
    obtain ⟨_, h1, _, h2, h3, h4⟩ := hf b hb
    exact ⟨h2, h1, h3, h4⟩
  refine I'.pins_of fun p hp => ?_
  rcases List.mem_append.mp hp with z | z
  · exact I'.pin p (List.mem_append_right _ z)
  · have e : p = (C, oC) := List.mem_singleton.mp z
    subst e
    refine ⟨eC, ?_, Nat.ne_of_gt (Nat.lt_of_lt_of_le I.lt hC), I.nofs hC, dC⟩
    rw [upd_ne (Ne.symm hDC)]
    exact J.free
noncomputable def PF (Y : Cx) (ifs : List Expr) (tc : TT) : Prop :=
  ∀ (pins : List (Addr × Obj)) (s : Shared) (σ : St) (H : Hp) (Q : Bool -> Hp -> Prop), Inv Y pins σ H s -> tc σ H Q ->
    wpAny (model Y.prog Y.w) Y.A (forIn ifs true fun c r => if r = true then do let ok <- isTrue c Y.env (eval c Y.env); pure (ForInStep.yield ok) else pure (ForInStep.yield r)) (TP Y pins σ Q) Y.xe s
noncomputable def tYes : TT := fun _ H Q => Q true H
theorem pf_nil {Y : Cx} : PF Y [] tYes := fun _ _ _ H _ I h => wpAny_tests_nil ⟨H, I, h⟩
theorem pf_one {Y : Cx} {c : Expr} {tc : TT} (h : PT Y c tc) : PF Y [c] tc := fun pins s σ H Q I hw => wpAny_tests_one (h pins s σ H Q I hw)
noncomputable def CompW (J : It) (σc : St) (g : TG) (tc : TT) (te : TE) (Q : VK) (H1 : Hp) : Prop :=
  ∃ W : Nat -> Nat -> List V -> Hp -> Prop, (∃ m, W 0 m [] H1) /\ ∀ i m acc H, W i m acc H -> acc.length < sizeLine /\
  ((J.stop i H /\ ∀ D, H D = none -> Q (.ref D) (upd H D (.lst acc))) \/
   (J.go i H /\ ∀ x H', J.yld i H x H' -> g x σc H' fun σ2 H2 => Wk σc σ2 /\ tc σ2 H2 fun b H3 => if b = true then te σ2 H3 fun v H4 => ∃ m', m' < m /\ W (i + 1) m' (acc ++ [v]) H4 else ∃ m', m' < m /\ W (i + 1) m' acc H3))
noncomputable def tComp (wi : TI) (ix : List (Option Nat)) (g : TG) (tc : TT) (te : TE) : TE := fun σ H Q => wi σ H fun J H1 => CompW J (subSt σ ix) g tc te Q H1
theorem comp_core {X : Cx} {tg iter elt : Expr} {ifs : List Expr} {scope : Scope} {pos : Pos} {wi : TI} {g : TG} {tc : TT} {te : TE} {Nc : List Str} {ix : List (Option Nat)} (hi : PI X tg iter wi) (hcalm : X.calm = true) (hix : IxOk X scope Nc ix)
    (hcell : ∀ y ∈ scope.names, y.2 ≠ .cell) (hkind : scope.kind = .function) (hfr : ∀ y ∈ scope.names, y.2 = .free -> X.env.kindOf y.1 = some .cell \/ X.env.kindOf y.1 = some .free)
    (hG : ∀ C s H fp, PG (cxComp X scope C Nc s H fp) tg g) (hT : ∀ C s H fp, PF (cxComp X scope C Nc s H fp) ifs tc) (hE : ∀ C s H fp, PE (cxComp X scope C Nc s H fp) elt te)
    {pins : List (Addr × Obj)} {s : Shared} {σ : St} {H : Hp} {Q : VK} (I : Inv X pins σ H s) (h : tComp wi ix g tc te σ H Q) {RR : Value -> Addr -> Result -> Shared -> Prop}
    (hRR : ∀ (D C : Addr) (oC : Obj) (m : Str -> Option Value) (H' : Hp) (s' : Shared), s'.heap.get? C = some oC -> s'.heap.Ns C m -> FpOk X pins H' C -> Inv X (pins ++ [(C, oC)]) σ H' s' -> Q (.ref D) H' -> RR (.ref D) C (.ok .next) s') :
    wpAny (model X.prog X.w) X.A (eval iter X.env) (fun v s1 => wpAny (model X.prog X.w) X.A (pyIter v) (fun it s2 => wpAny (model X.prog X.w) X.A (newList []) (fun acc s3 =>
      wpAny (model X.prog X.w) X.A (newFunctionEnv scope X.env.globals (clOf X.env scope.names []) [] X.env.qual none .none (some X.env)) (fun cenv s4 =>
        codeAny (model X.prog X.w) X.A (.compStart (.ListComp elt [⟨tg, iter, ifs, 0⟩] scope pos) 0 it acc { cenv with scope := relabel scope X.env }) (RR acc cenv.locals) s4) X.xe s3) X.xe s2) X.xe s1) X.xe s := by
  refine thn (hi pins s σ H _ I h) fun v s1 h1 => thn h1 fun itv s2 h2 => ?_
  obtain ⟨it, fp, tn, J, H2, e, I2, T, st2, f2, W, ⟨m0, w0⟩, turn⟩ := h2
  subst e
  refine wpAny_newObj_type (wpAny_newFunctionEnv hcell (by intro y hy; simp at hy) (fun h₁ hns₁ hsb₁ => ?_) hkind)
  dsimp only at hns₁ hsb₁ ⊢
  generalize hH2 : s2.heap.push { cls := .type "list", dict := none, data := .seq ([] : List Value).toArray } = P2 at hns₁ hsb₁ ⊢
  have hC : P2.objs.size = s2.heap.objs.size + 1 := by rw [<- hH2, Heap.size_push]
  have hDC : s2.heap.objs.size ≠ P2.objs.size := by rw [hC]; exact Nat.ne_of_lt (Nat.lt_succ_self _)
  have hCle : s2.heap.objs.size <= P2.objs.size := by rw [hC]; exact Nat.le_succ _
  have neC : ∀ b, b < s2.heap.objs.size -> b ≠ P2.objs.size := fun b hb => by rw [hC]; exact Nat.ne_of_lt (Nat.lt_succ_of_lt hb)
  have old : ∀ b o, s2.heap.get? b = some o -> h₁.get? b = some o := fun b o e => hsb₁.extBut b o (neC b (Heap.lt_size e)) (Heap.get?_push_of_some _ (hH2 ▸ Heap.get?_push_of_some _ e))
  have hacc : h₁.get? s2.heap.objs.size = some { cls := .type "list", data := .seq ([] : List Value).toArray } := hsb₁.extBut _ _ hDC (Heap.get?_push_of_some _ (hH2 ▸ Heap.get?_push_size _ rfl))
  have st₁ : tn 0 h₁ := T.keep 0 _ _ st2 fun b _ o e => old b o e
  have hfo : ∀ b ∈ fp, ∃ o, s2.heap.get? b = some o := fun b hb => let ⟨o, e, _⟩ := T.obj 0 _ st2 b hb; ⟨o, e⟩
  have fpD : ∀ b ∈ fp, s2.heap.objs.size ≠ b := fun b hb => let ⟨o, e⟩ := hfo b hb; Nat.ne_of_gt (Heap.lt_size e)
  have IY := comp_start I2 hix hcell hkind hfr f2 hfo (t' := s2.toks + ([] : List (Str × Value)).length) hCle hns₁ old
  have notS : ∀ b, s2.heap.objs.size <= b -> b ∉ frs X.stack := fun b hb hs => by
    rcases List.mem_cons.mp (I2.stkSub b hs) with z | z
    · exact absurd (Nat.lt_of_lt_of_le I2.lt hb) (by rw [z]; exact Nat.lt_irrefl _)
    · exact I2.nofs hb z
  have from_ : ∀ {x : Str} {c : Addr}, (clOf X.env scope.names []).lookup x = some c -> X.env.cells.lookup x = some c := fun {x c} e => clOf_from scope.names [] (fun y d q => by simp at q) e
  have cellD : ∀ x c, (clOf X.env scope.names []).lookup x = some c -> c ≠ s2.heap.objs.size := fun x c e z => by
    obtain ⟨v, q⟩ := I2.cell x c (from_ e)
    exact absurd (q.lt) (by rw [z]; exact Nat.lt_irrefl _)
  have fY : ∀ {pl : List (Addr × Obj)} {H' : Hp}, (∀ p ∈ pl, p.1 = s2.heap.objs.size) -> (∀ b ∈ fp, H' b = none) -> ∀ b ∈ fp, FpOk (cxComp X scope P2.objs.size Nc s2 H2 fp) pl H' b := fun {pl H'} hpl hn b hb => by
    refine ⟨hn b hb, ?_, ?_, .inl hb, fun x c e => (f2 b hb).2.2.2.2.1 x c (from_ e), fun p hp => ?_⟩
    · obtain ⟨o, e⟩ := hfo b hb
      exact neC b (Heap.lt_size e)
    · intro hs
      rcases List.mem_cons.mp (I2.stkSub b hs) with z | z
      · exact (f2 b hb).2.1 z
      · exact (f2 b hb).2.2.1 z
    · rw [hpl p hp]
      exact fpD b hb
  have loop : ∀ s₃ : Shared, s₃ = { s2 with heap := h₁, toks := s2.toks + ([] : List (Str × Value)).length } ->
      codeAny (model X.prog X.w) X.A (.compLoop (.ListComp elt [⟨tg, iter, ifs, 0⟩] scope pos) 0 (.ref it) (.ref s2.heap.objs.size) (compEnvC scope (clOf X.env scope.names []) P2.objs.size X.env)) (RR (.ref s2.heap.objs.size) P2.objs.size) s₃ := by
    rintro s₃ rfl
    refine compLoop_gen (fun n s' => ∃ i acc its nn H', Inv (cxComp X scope P2.objs.size Nc s2 H2 fp) [] (subSt σ ix) H' s' /\ tn i s'.heap /\ (∀ b ∈ fp, H' b = none) /\
      s'.heap.get? s2.heap.objs.size = some { cls := .type "list", data := .seq (its : List Value).toArray nn } /\ Vals acc its /\ H' s2.heap.objs.size = none /\ W i n acc H') ?_ m0
      ⟨0, [], [], 0, H2, IY, st₁, fun b hb => (f2 b hb).1, hacc, .nil, I2.hok.fresh (Nat.le_refl _), w0⟩
    rintro n s3 ⟨i, acc, its, nn, H3, I3, st3, fr3, eD, rv, nD, w3⟩
    obtain ⟨hz, alt⟩ := turn i n acc H3 w3
    have IP : Inv (cxComp X scope P2.objs.size Nc s2 H2 fp) [(s2.heap.objs.size, { cls := .type "list", data := .seq its.toArray nn })] (subSt σ ix) H3 s3 := I3.pins_of fun p hp => by
      have e : p = (s2.heap.objs.size, _) := List.mem_singleton.mp hp
      subst e
      refine ⟨eD, nD, hDC, notS _ (Nat.le_refl _), fun v z => ?_⟩
      have z' : Data.seq its.toArray nn = Data.cell v := z
      cases z'
    have hpl : ∀ p ∈ [(s2.heap.objs.size, ({ cls := .type "list", data := .seq its.toArray nn } : Obj))], p.1 = s2.heap.objs.size := fun p hp => by
      have e : p = (s2.heap.objs.size, _) := List.mem_singleton.mp hp
      rw [e]
    rcases alt with ⟨stop, fin⟩ | ⟨go, step⟩
    · refine thn (T.done (cxComp X scope P2.objs.size Nc s2 H2 fp) rfl rfl rfl hcalm i _ s3 _ H3 noE IP (fY hpl fr3) st3 stop) fun r s4 ⟨hr, I4⟩ => ?_
      subst hr
      obtain ⟨m, hn, _⟩ := id I4.loc
      obtain ⟨oC, es, ep, eC, dC, _⟩ := id hn
      have eD4 := (I4.pin (s2.heap.objs.size, _) (List.mem_append_right _ (List.mem_singleton.mpr rfl))).1
      have fin' := fin _ nD
      refine hRR _ _ oC m _ s4 eC hn ?_ (comp_exit I2 I4 f2 (Nat.le_refl _) hCle hDC eD4 rv (Nat.le_of_lt hz) nD eC fun v z => ?_) fin'
      · refine I2.fpOk hCle ?_
        rw [upd_ne (Ne.symm hDC)]
        exact I4.free
      · rw [dC] at z; cases z
    · refine thn (T.item (cxComp X scope P2.objs.size Nc s2 H2 fp) rfl rfl rfl hcalm i _ s3 _ H3 noE IP (fY hpl fr3) st3 go) fun r s4 ⟨u, hr, h4⟩ => ?_
      subst hr
      refine thn h4 fun _ s5 ⟨x, H5, I5, r5, y5, st5, fr5⟩ => ?_
      have I5' := I5.pinned (fY hpl fr5) (T.obj _ _ st5)
      refine thn (hG _ s2 H2 fp _ s5 _ H5 x u _ I5' r5 (step x H5 y5)) fun _ s6 ⟨σ6, H6, I6, wk, q6⟩ => ?_
      refine thn (hT _ s2 H2 fp _ s6 σ6 H6 _ I6 q6) fun b s7 ⟨H7, I7, q7⟩ => ?_
      have again : ∀ {H9 : Hp} {s9 : Shared} {m' : Nat}, Inv (cxComp X scope P2.objs.size Nc s2 H2 fp) ([(s2.heap.objs.size, ({ cls := .type "list", data := .seq its.toArray nn } : Obj))] ++ pinsAt fp s5.heap) σ6 H9 s9 ->
          (s9.heap.get? s2.heap.objs.size = some { cls := .type "list", data := .seq its.toArray nn } /\ H9 s2.heap.objs.size = none) /\ tn (i + 1) s9.heap /\ (∀ b ∈ fp, H9 b = none) /\ Inv (cxComp X scope P2.objs.size Nc s2 H2 fp) [] (subSt σ ix) H9 s9 := fun {H9 s9 m'} I9 => by
        have pD := I9.pin (s2.heap.objs.size, _) (List.mem_append_right _ (List.mem_append_left _ (List.mem_singleton.mpr rfl)))
        refine ⟨⟨pD.1, pD.2.1⟩, T.keep _ _ _ st5 fun b hb o e => (I9.pin (b, o) (List.mem_append_right _ (List.mem_append_right _ (mem_pinsAt hb e)))).1, fun b hb => ?_, ?_⟩
        · obtain ⟨o, e, d⟩ := T.obj _ _ st5 b hb
          exact (I9.pin (b, o) (List.mem_append_right _ (List.mem_append_right _ (mem_pinsAt hb e)))).2.1
        · exact (I9.weak wk.len fun i v e => wk.get e).pins_of fun p hp => absurd hp (by simp)
      cases b with
      | false =>
        rw [if_neg Bool.false_ne_true] at q7 ⊢
        obtain ⟨m', hm, w7⟩ := q7
        obtain ⟨⟨e7, n7⟩, t7, f7, J7⟩ := again (m' := 0) I7
        exact ⟨m', hm, i + 1, acc, its, nn, H7, J7, t7, f7, e7, rv, n7, w7⟩
      | true =>
        rw [if_pos rfl] at q7 ⊢
        refine thn (hE _ s2 H2 fp _ s7 σ6 H7 _ I7 q7) fun y s8 ⟨v, H8, I8, r8, m', hm, w8⟩ => ?_
        obtain ⟨⟨e8, n8⟩, t8, f8, J8⟩ := again (m' := 0) I8
        refine wpAny_list_append_plain (items := its.toArray) ⟨nn, e8⟩ (fun h9 hl9 hs9 => ?_) (by rw [List.size_toArray, <- rv.length]; exact Nat.le_of_lt hz)
        obtain ⟨n9, e9⟩ := hl9
        refine ⟨m', hm, i + 1, acc ++ [v], its ++ [y], n9, H8, J8.turned (t' := s8.toks) (fun b o hb e => (hs9.2 b hb).trans e) n8 hDC (.inr (Nat.le_refl _)) cellD (fun p hp => absurd hp (by simp [cxComp])), ?_, f8, ?_, rv.append (.cons r8 .nil), n8, w8⟩
        · exact T.keep _ _ _ t8 fun b hb o e => (hs9.2 b (Ne.symm (fpD b hb))).trans e
        · simpa using e9
  exact codeAny_compStart_list (loop _ rfl) (T.self _ 0 _ _ _ st₁ (loop _ rfl))
theorem pe_comp {X : Cx} {tg iter elt : Expr} {ifs : List Expr} {scope : Scope} {pos : Pos} {wi : TI} {g : TG} {tc : TT} {te : TE} (Nc : List Str) (ix : List (Option Nat)) (hi : PI X tg iter wi) (hcalm : X.calm = true) (hix : IxOk X scope Nc ix)
    (hcell : ∀ y ∈ scope.names, y.2 ≠ .cell) (hkind : scope.kind = .function) (hfr : ∀ y ∈ scope.names, y.2 = .free -> X.env.kindOf y.1 = some .cell \/ X.env.kindOf y.1 = some .free)
    (hnames : ∀ x ∈ scope.names, x.2 = .local -> scope.names.lookup x.1 = some .local)
    (hG : ∀ C s H fp, PG (cxComp X scope C Nc s H fp) tg g) (hT : ∀ C s H fp, PF (cxComp X scope C Nc s H fp) ifs tc) (hE : ∀ C s H fp, PE (cxComp X scope C Nc s H fp) elt te)
    (hs : ∀ x, foldedSetIterable iter X.env x = pure x := by intro _; rfl) : PE X (.ListComp elt [⟨tg, iter, ifs, 0⟩] scope pos) (tComp wi ix g tc te) := by
  intro pins s σ H Q I h
  rw [eval_ListComp]
  have hfc : ∀ y ∈ scope.names, y.2 = .free -> ∃ c, X.env.cells.lookup y.1 = some c := fun y hy e => I.ok.has y.1 (hfr y hy e)
  refine wpAny_comprehension_free (use := none) rfl hs (closureFor_cl hfc) hkind hnames (comp_core hi hcalm hix hcell hkind hfr hG hT hE I h (RR := fun acc C => compPost (model X.prog X.w) X.A X.xe none (EP X pins σ Q) acc C) ?_)
  intro D C oC m H' s' eC hn fC I' q
  refine ⟨m, hn, fun h' hs' => ⟨.ref D, H', ?_, rfl, q⟩⟩
  exact I'.unpinned.turned (t' := s'.toks) (fun b o hb e => (hs'.2 b hb).trans e) fC.1 fC.2.1 fC.2.2.2.1 fC.2.2.2.2.1 fC.2.2.2.2.2
end L2
namespace L2
open PySem PySem.Spec PyProof.Rows
noncomputable def S (l : List Nat) : Str := ⟨l.toArray⟩
theorem S_list (l : List Nat) : (S l).cps.toList = l := by simp [S]
theorem S_len (l : List Nat) : (S l).length = l.length := by simp [S, Str.length]
theorem S_size (l : List Nat) : (S l).cps.size = l.length := by simp [S]
theorem S_inj {a b : List Nat} (h : S a = S b) : a = b := by
  have := congrArg (fun x : Str => x.cps.toList) h
  simpa [S] using this
theorem S_of (x : Str) : x = S x.cps.toList := by cases x; simp [S]
theorem S_app (a b : List Nat) : S a ++ S b = S (a ++ b) := by
  apply Str.ext'
  apply Array.toList_inj.mp
  simp [S, Str.cps_append]
theorem dec_S {a b : List Nat} : decide (V.str (S a) = V.str (S b)) = decide (a = b) := by
  by_cases h : a = b
  · subst h; simp
  · rw [decide_eq_false h, decide_eq_false]
    intro q
    exact h (S_inj (V.str.inj q))
noncomputable def cut {α : Type} (xs : List α) (lo hi : Option Int) : List α := (xs.drop (HT.sIx xs.length 0 lo)).take (HT.sIx xs.length xs.length hi - HT.sIx xs.length 0 lo)
theorem cut_len {α : Type} (xs : List α) (lo hi : Option Int) : (cut xs lo hi).length <= xs.length := by
  unfold cut
  rw [List.length_take, List.length_drop]
  omega
theorem clip_sIx (n d : Nat) (v : Int) : max 0 (min (if v < 0 then v + (n : Int) else v) (n : Int)) = ((HT.sIx n d (some v) : Nat) : Int) := by
  show _ = (((if v < 0 then (v + (n : Int)).toNat else min v.toNat n) : Nat) : Int)
  by_cases hv : v < 0
  · simp only [if_pos hv]; omega
  · simp only [if_neg hv]; omega
theorem indices_sIx (lo hi : Option Int) (n : Nat) : Builtin.Str.strSliceIndices lo hi 1 n = (List.range (HT.sIx n n hi - HT.sIx n 0 lo)).map (HT.sIx n 0 lo + ·) := by
  have h1 : (1 : Int) > 0 := by decide
  rw [<- sliceRange_one]
  unfold Builtin.Str.strSliceIndices
  simp only [h1, if_true]
  congr 1
  · cases lo with
    | none => rfl
    | some v => exact clip_sIx n 0 v
  · cases hi with
    | none => rfl
    | some v => exact clip_sIx n n v
theorem slice_S (l : List Nat) (lo hi : Option Int) : Txt.slice (S l) lo hi = S (cut l lo hi) := by
  have hx : ((Builtin.Str.strSliceIndices lo hi 1 (S l).length).filterMap ((S l).cps[·]?)) = cut l lo hi := by
    rw [S_len, indices_sIx, pick_run, S_list]
    rfl
  have hlen : (Builtin.Str.strSliceIndices lo hi 1 (S l).length).length = HT.sIx l.length l.length hi - HT.sIx l.length 0 lo := by
    rw [S_len, indices_sIx, List.length_map, List.length_range]
  unfold Txt.slice
  by_cases hc : ((1 : Int) == 1 && (Builtin.Str.strSliceIndices lo hi 1 (S l).length).length == (S l).length) = true
  · rw [if_pos hc]
    rw [hlen, S_len] at hc
    have e : HT.sIx l.length l.length hi - HT.sIx l.length 0 lo = l.length := by simpa using hc
    have h2 := HT.sIx_le l.length l.length (Nat.le_refl _) hi
    have e0 : HT.sIx l.length 0 lo = 0 \/ l.length = 0 := by omega
    unfold cut
    rw [e]
    rcases e0 with z | z
    · rw [z]; simp
    · have : l = [] := List.eq_nil_of_length_eq_zero z
      subst this
      simp
  · rw [if_neg hc]
    rw [hx]
    rfl
section
variable {X : Cx}
theorem pe_S {x : Str} {j pos} (l : List Nat) (h : x = S l) : PE X (.Constant (.str x) j pos) (tC (.str (S l))) := by
  subst h
  exact pe_str
noncomputable def rAddS : R2 := fun x y H Q => ∃ a b, x = .str (S a) /\ y = .str (S b) /\ a.length + b.length <= sizeLine /\ Q (.str (S (a ++ b))) H
theorem op_addS : OpR X (binaryOp .Add) rAddS := by
  intro pins s σ H x y v u Q I rx ry h
  obtain ⟨a, b, rfl, rfl, hz, q⟩ := h
  exact op_add_str pins s σ H _ _ v u Q I rx ry ⟨S a, S b, rfl, rfl, by rw [S_len, S_len]; exact hz, by rw [S_app]; exact q⟩
noncomputable def rIxS' : R2 := fun x y H Q => ∃ l i c, x = .str (S l) /\ y = .int i /\ l.length <= sizeLine /\ atI l i = some c /\ Q (.str (S [c])) H
theorem ix_S : IxR X rIxS' := by
  intro value slice pins s σ H x y v u Q I rx ry h hs
  obtain ⟨l, i, c, rfl, rfl, hz, he, q⟩ := h
  exact ix_str value slice pins s σ H _ _ v u Q I rx ry ⟨S l, i, c, rfl, rfl, by rw [S_len]; exact hz, by rw [S_list]; exact he, q⟩ hs
noncomputable def rSlS : V -> Option Int -> Option Int -> Hp -> VK -> Prop := fun x lo hi H Q => ∃ l, x = .str (S l) /\ l.length <= sizeLine /\ Q (.str (S (cut l lo hi))) H
theorem sl_S : SlR X rSlS := by
  intro pins s σ H x v vl vu lo hi sl Q I rx hs pl pu h
  obtain ⟨l, rfl, hz, q⟩ := h
  obtain ⟨t, rfl⟩ := rx
  refine ⟨"str", _, F.slot_str_getitem.lookup, typeIs_str _ _ _, ?_⟩
  have key : ∀ (a b : Option (Int × Tok)), vl = partValue a -> vu = partValue b -> a.map (·.1) = lo -> b.map (·.1) = hi -> wpAny (model X.prog X.w) X.A (getItem (.str (S l) t) (.ref sl)) (EP X pins σ Q) X.xe s := by
    rintro a b rfl rfl rfl rfl
    obtain ⟨o, e, c, d⟩ := hs
    refine wpAny_getItem_str_slice (l := a) (u := b) (st := none) ⟨o, e, c, d⟩ rfl (post_val_or_str ⟨?_, fun t' k => ?_⟩)
    · exact Nat.le_trans (Txt.slice_le (S l) _ _) (by rw [S_len]; exact hz)
    · exact ⟨.str (S (cut l _ _)), H, I.tok _, ⟨t', congrArg (fun z => Value.str z t') (slice_S l _ _)⟩, q⟩
  cases pl with
  | none =>
    cases pu with
    | none => exact key none none rfl rfl rfl rfl
    | int i ti => exact key none (some (i, ti)) rfl rfl rfl rfl
  | int i ti =>
    cases pu with
    | none => exact key (some (i, ti)) none rfl rfl rfl rfl
    | int j tj => exact key (some (i, ti)) (some (j, tj)) rfl rfl rfl rfl
theorem call_lenS : CallR X (.builtin "len") (fun xs H Q => ∃ l, xs = [.str (S l)] /\ l.length <= sizeLine /\ Q (.int l.length) H) := by
  intro pins s σ H xs us Q I r h
  obtain ⟨l, rfl, hz, q⟩ := h
  exact call_len_str pins s σ H _ us Q I r ⟨S l, rfl, by rw [S_len]; exact hz, by rw [S_len]; exact q⟩
noncomputable def sgs (l : List Nat) : List V := l.map fun c => V.str (S [c])
theorem vals_signs {l : List Nat} : ∀ {acc : List Value} , acc.length = l.length -> (∀ j v, acc[j]? = some v -> SignAt (S l) j v) -> Vals (sgs l) acc := by
  induction l with
  | nil => intro acc h _; have : acc = [] := List.eq_nil_of_length_eq_zero h; subst this; exact .nil
  | cons c l ih =>
    intro acc h k
    cases acc with
    | nil => cases h
    | cons a acc =>
      refine .cons ?_ (ih (by simpa using h) fun j v e => ?_)
      · obtain ⟨c', u, e1, e2⟩ := k 0 a rfl
        have : c = c' := by simpa [S] using e1
        subst this
        exact ⟨u, e2⟩
      · obtain ⟨c', u, e1, e2⟩ := k (j + 1) v (by simpa using e)
        exact ⟨c', u, by simpa [S] using e1, e2⟩
theorem call_listS (hc : X.calm = true) : CallR X (.type "list") (fun xs H Q => ∃ l, xs = [.str (S l)] /\ l.length <= sizeLine /\ ∀ p, H p = none -> Q (.ref p) (upd H p (.lst (sgs l)))) := by
  intro pins s σ H xs us Q I r h
  obtain ⟨l, rfl, hz, q⟩ := h
  obtain ⟨u, rfl, t, rfl⟩ := vals1 r
  refine call_list_str (I.ok.hd hc) (S l) t (fun h' tk acc' c' hk e hacc => ?_) (by rw [S_size]; exact hz)
  obtain ⟨h1, h2⟩ := hacc
  rw [S_size] at h1
  refine ⟨.ref s.heap.objs.size, _, I.laid (t' := tk) (o := .lst (sgs l)) hk (Nat.le_refl _) ?_, rfl, q _ I.fresh⟩
  exact ⟨by unfold sgs; rw [List.length_map]; exact hz, acc'.toList, c', vals_signs (by simpa using h1) (fun j v e => h2 j v (by simpa using e)), by simpa using e⟩
noncomputable def rInS : R2 := fun x y H Q => ∃ c l, x = .str (S [c]) /\ y = .str (S l) /\ Q (.bl (decide (c ∈ l))) H
theorem op_inS : OpR X (compareOp .In) rInS := by
  intro pins s σ H x y v u Q I rx ry h
  obtain ⟨c, l, rfl, rfl, q⟩ := h
  refine op_in_str pins s σ H _ _ v u Q I rx ry ⟨S [c], S l, rfl, rfl, ?_⟩
  have e := StrLaws.found_one (S l) c
  rw [S_list] at e
  rw [show (S [c]) = (⟨#[c]⟩ : Str) from rfl, e]
  exact q
noncomputable def rNinS : R2 := fun x y H Q => ∃ c l, x = .str (S [c]) /\ y = .str (S l) /\ Q (.bl (!decide (c ∈ l))) H
theorem op_ninS : OpR X (compareOp .NotIn) rNinS := by
  intro pins s σ H x y v u Q I rx ry h
  obtain ⟨c, l, rfl, rfl, q⟩ := h
  refine op_notIn_str pins s σ H _ _ v u Q I rx ry ⟨S [c], S l, rfl, rfl, ?_⟩
  have e := StrLaws.found_one (S l) c
  rw [S_list] at e
  rw [show (S [c]) = (⟨#[c]⟩ : Str) from rfl, e]
  exact q
end
end L2
namespace L2
open PySem PySem.Spec PyProof.Rows
theorem occ_stays (s sub : Str) (hi : Nat) : ∀ (l : List Nat) (st : Array Nat × Nat), 1 <= st.fst.size -> (forIn l st (StrLaws.occBody s sub hi 1)).run.fst = st.fst
  | [], st, h => rfl
  | a :: l, st, h => by
    rw [List.forIn_cons]
    unfold StrLaws.occBody
    rw [if_neg (fun z => absurd z.1.1.1 (Nat.not_lt.mpr h))]
    exact occ_stays s sub hi l _ h
theorem occ_first (s sub : Str) (hi : Nat) : ∀ (l : List Nat) (free : Nat), (∀ i ∈ l, free <= i) ->
    (forIn l ((#[] : Array Nat), free) (StrLaws.occBody s sub hi 1)).run.fst.toList = (l.find? fun i => decide (i + sub.length <= hi) && Builtin.Str.subAt s sub i).toList
  | [], free, _ => rfl
  | a :: l, free, hf => by
    rw [List.forIn_cons, List.find?_cons]
    unfold StrLaws.occBody
    have ha : free <= a := hf a List.mem_cons_self
    by_cases hc : a + sub.length <= hi /\ Builtin.Str.subAt s sub a = true
    · rw [if_pos ⟨⟨⟨by simp, ha⟩, hc.1⟩, hc.2⟩]
      have : (decide (a + sub.length <= hi) && Builtin.Str.subAt s sub a) = true := by simp [hc]
      rw [this]
      show (forIn l (#[].push a, a + sub.length) (StrLaws.occBody s sub hi 1)).run.fst.toList = _
      rw [occ_stays s sub hi l _ (by simp)]
      rfl
    · rw [if_neg (fun z => hc ⟨z.1.2, z.2⟩)]
      have : (decide (a + sub.length <= hi) && Builtin.Str.subAt s sub a) = false := by
        cases h1 : decide (a + sub.length <= hi) with
        | false => rfl
        | true =>
          cases h2 : Builtin.Str.subAt s sub a with
          | false => rfl
          | true => exact absurd ⟨of_decide_eq_true h1, h2⟩ hc
      rw [this]
      exact occ_first s sub hi l free fun i hi' => hf i (List.mem_cons_of_mem _ hi')
theorem subAt_one (l : List Nat) (c i : Nat) : Builtin.Str.subAt (S l) (S [c]) i = (l[i]? == some c) := by
  unfold Builtin.Str.subAt
  rw [S_len]
  show ((S l).cps.extract i (i + 1) == #[c]) = _
  have e : ((S l).cps.extract i (i + 1)) = ((l.drop i).take 1).toArray := by
    apply Array.toList_inj.mp
    simp [S, List.take_drop]
  rw [e]
  by_cases h : i < l.length
  · have e2 : (l.drop i).take 1 = [l[i]] := by
      rw [List.drop_eq_getElem_cons h]; rfl
    rw [e2, List.getElem?_eq_getElem h]
    by_cases hc : l[i] = c
    · rw [hc]; simp
    · have h1 : ([l[i]].toArray == #[c]) = false := by
        rw [beq_eq_false_iff_ne]
        intro z
        apply hc
        have := congrArg Array.toList z
        simpa using this
      have h2 : (some l[i] == some c) = false := by simpa using hc
      rw [h1, h2]
  · have e2 : (l.drop i).take 1 = [] := by rw [List.drop_eq_nil_of_le (by omega)]; rfl
    rw [e2, List.getElem?_eq_none (by omega)]
    rfl
theorem find_idx (l : List Nat) (c : Nat) : ∀ (k n : Nat), k + n = l.length + 1 -> ((List.range' k n).find? fun i => decide (i + 1 <= l.length) && (l[i]? == some c)) = if c ∈ l.drop k then some (k + (l.drop k).idxOf c) else none
  | k, 0, h => by
    have : l.drop k = [] := List.drop_eq_nil_of_le (by omega)
    rw [this]; simp
  | k, n + 1, h => by
    rw [List.range'_succ, List.find?_cons]
    by_cases hk : k < l.length
    · have e : l.drop k = l[k] :: l.drop (k + 1) := List.drop_eq_getElem_cons hk
      rw [List.getElem?_eq_getElem hk, e]
      by_cases hc : l[k] = c
      · have : (decide (k + 1 <= l.length) && (some l[k] == some c)) = true := by simp [hc]; omega
        rw [this, if_pos (by simp [hc])]
        simp [hc]
      · have : (decide (k + 1 <= l.length) && (some l[k] == some c)) = false := by simp [hc]
        rw [this, find_idx l c (k + 1) n (by omega)]
        have hc' : ¬ c = l[k] := fun z => hc z.symm
        by_cases hm : c ∈ l.drop (k + 1)
        · rw [if_pos hm, if_pos (List.mem_cons_of_mem _ hm), List.idxOf_cons]
          have : (l[k] == c) = false := by simpa using hc
          rw [this]
          show some (k + 1 + List.idxOf c (List.drop (k + 1) l)) = some (k + (List.idxOf c (List.drop (k + 1) l) + 1))
          congr 1
          omega
        · rw [if_neg hm, if_neg (by intro z; rcases List.mem_cons.mp z with z | z; exact hc' z; exact hm z)]
    · have : l.drop k = [] := List.drop_eq_nil_of_le (by omega)
      have e1 : (decide (k + 1 <= l.length) && (l[k]? == some c)) = false := by
        rw [decide_eq_false (by omega)]; rfl
      have e2 : l.drop (k + 1) = [] := List.drop_eq_nil_of_le (by omega)
      rw [e1, find_idx l c (k + 1) n (by omega), this, e2]
      simp
theorem occ_S (l : List Nat) (c : Nat) : Builtin.Str.occurrences (S l) (S [c]) 0 (S l).length 1 = if c ∈ l then [l.idxOf c] else [] := by
  rw [StrLaws.occ_eq, occ_first _ _ _ _ 0 fun _ _ => Nat.zero_le _]
  have e : (fun i => decide (i + (S [c]).length <= (S l).length) && Builtin.Str.subAt (S l) (S [c]) i) = fun i => decide (i + 1 <= l.length) && (l[i]? == some c) := by
    funext i
    rw [subAt_one, S_len, S_len]
    rfl
  rw [e, S_len, Nat.sub_zero, find_idx l c 0 (l.length + 1) (by omega), List.drop_zero]
  by_cases h : c ∈ l
  · rw [if_pos h, if_pos h, Nat.zero_add]; rfl
  · rw [if_neg h, if_neg h]; rfl
section
variable {X : Cx}
noncomputable def rIndexS : V -> List V -> Hp -> VK -> Prop := fun x vs H Q => ∃ l c, x = .str (S l) /\ vs = [.str (S [c])] /\ c ∈ l /\ Q (.int (l.idxOf c : Nat)) H
theorem mt_indexS : MtR X "str.index" rIndexS := by
  intro pins s σ H x xs v us Q I rx rv h
  obtain ⟨l, c, rfl, rfl, hc, q⟩ := h
  obtain ⟨t, rfl⟩ := rx
  obtain ⟨u, rfl, t', rfl⟩ := vals1 rv
  exact SC.index (i := l.idxOf c) (rest := []) (by rw [occ_S, if_pos hc]) ⟨.int (l.idxOf c : Nat), H, I.tok _, ⟨_, rfl⟩, q⟩
noncomputable def rLowS (f : Nat -> Bool) : V -> List V -> Hp -> VK -> Prop := fun x vs H Q => ∃ c, x = .str (S [c]) /\ vs = [] /\ c < 128 /\ Q (.bl (f c)) H
noncomputable def rUpS (f : Nat -> Nat) : V -> List V -> Hp -> VK -> Prop := fun x vs H Q => ∃ c, x = .str (S [c]) /\ vs = [] /\ c < 128 /\ Q (.str (S [f c])) H
noncomputable def isLow (c : Nat) : Bool := decide (97 <= c) && decide (c <= 122)
theorem low_all : ∀ c, c < 128 -> Txt.islower ⟨#[c]⟩ = isLow c := by decide +kernel
theorem mt_islower : MtR X "str.islower" (rLowS isLow) := by
  intro pins s σ H x xs v us Q I rx rv h
  obtain ⟨c, rfl, rfl, hc, q⟩ := h
  obtain ⟨t, rfl⟩ := rx
  have e : us = [] := by cases rv; rfl
  subst e
  exact SC.islower ⟨.bl (isLow c), H, I, congrArg Value.bool (low_all c hc), q⟩
theorem lower_one {c : Nat} (hc : c < 128) : Txt.lower (S [c]) = S [lo1 c] := by
  rw [lower_ascii (by intro d hd; rw [S_list] at hd; simp at hd; omega)]
  simp [S]
theorem fits1 (c : Nat) : Builtin.Str.tooLong (S [c]).length = false := by
  rw [S_len]
  show Builtin.Str.tooLong 1 = false
  decide
theorem mt_lower : MtR X "str.lower" (rUpS lo1) := by
  intro pins s σ H x xs v us Q I rx rv h
  obtain ⟨c, rfl, rfl, hc, q⟩ := h
  obtain ⟨t, rfl⟩ := rx
  have e : us = [] := by cases rv; rfl
  subst e
  exact SC.lower (by rw [lower_one hc]; exact fits1 _) ⟨.str (S [lo1 c]), H, I.tok _, ⟨_, congrArg (fun z => Value.str z _) (lower_one hc)⟩, q⟩
theorem glue_S : ∀ (ls : List (List Nat)) (a : Array Nat), (ls.map S).foldl (fun acc p => acc ++ (S []).cps ++ p.cps) a = a ++ ls.flatten.toArray
  | [], a => by simp
  | l :: ls, a => by
    rw [List.map_cons, List.foldl_cons, glue_S ls]
    simp [S]
theorem join_S (ls : List (List Nat)) : Txt.join (S []) (ls.map S) = S ls.flatten := by
  unfold Txt.join Builtin.Str.glued
  cases ls with
  | nil => rfl
  | cons l ls =>
    show Str.mk ((List.map S ls).foldl (fun acc p => acc ++ (S []).cps ++ p.cps) (S l).cps) = _
    rw [glue_S]
    simp [S]
theorem strsAre_of : ∀ {ls : List (List Nat)} {us : List Value}, Vals (ls.map fun l => V.str (S l)) us -> StrsAre us (ls.map S)
  | [], us, r => by cases r; exact .nil
  | l :: ls, us, r => by
    cases r with
    | cons r1 r2 =>
      obtain ⟨t, rfl⟩ := r1
      exact .cons _ t (strsAre_of r2)
noncomputable def rJoinS (K : PySem.W.Frag) : V -> List V -> Hp -> VK -> Prop := fun x vs H Q => ∃ (p : Addr) (ls : List (List Nat)), x = .str (S []) /\ vs = [.ref p] /\ SqL K H p (ls.map fun l => V.str (S l)) /\ (ls.map List.length).sum <= 16777216 /\ Q (.str (S ls.flatten)) H
theorem mt_joinS : MtR X "str.join" (rJoinS X.K) := by
  intro pins s σ H x xs v us Q I rx rv h
  obtain ⟨p, ls, rfl, rfl, hq, hz, q⟩ := h
  obtain ⟨t, rfl⟩ := rx
  obtain ⟨u, rfl, ru⟩ := vals1 rv
  cases ru
  obtain ⟨its, r, pl, _⟩ := I.list hq
  have e : (S []).length = 0 := rfl
  refine join_list pl.isList (by simpa using strsAre_of r) ?_ fun t' k => ?_
  · rw [e, Nat.mul_zero, Nat.add_zero, List.map_map]
    have e2 : (Str.length ∘ S) = List.length := by funext l; exact S_len l
    have e3 : ((fun x : Str => x.length) ∘ S) = List.length := by funext l; exact S_len l
    first | (rw [e2]; exact hz) | (rw [e3]; exact hz)
  · exact ⟨.str (S ls.flatten), H, I.tok _, ⟨t', congrArg (fun z => Value.str z t') (join_S ls)⟩, q⟩
end
end L2
namespace L2.F2
open PySem PySem.Spec PyProof.Rows
end L2.F2
namespace L2
open PySem PySem.Spec PyProof.Rows
section
variable {prog : Program} {w : World} {A : Around} {E : Value -> Shared -> Prop} {s : Shared}
noncomputable def IsRevS (h : Heap) (it : Addr) (x : Str) (t : Tok) (i : Int) : Prop := ∃ o, h.get? it = some o /\ o.cls = .type "reversed" /\ o.data = .fields #[.str x t, rawInt i]
end
noncomputable def Itx (xs : List V) : It := ⟨fun i _ => i < xs.length, fun i H x H' => H' = H /\ xs[i]? = some x, fun i _ => xs.length <= i⟩
theorem sgs_get {l : List Nat} {i : Nat} {x : V} (h : (sgs l)[i]? = some x) : ∃ c, l[i]? = some c /\ x = .str (S [c]) := by
  unfold sgs at h
  rw [List.getElem?_map] at h
  cases e : l[i]? with
  | none => rw [e] at h; cases h
  | some c => rw [e] at h; cases h; exact ⟨c, rfl, rfl⟩
theorem sgs_len (l : List Nat) : (sgs l).length = l.length := by unfold sgs; rw [List.length_map]
theorem turn_str {P : Program} {w : World} {K : PySem.W.Frag} {tg : Expr} (it : Addr) (l : List Nat) (t : Tok) : Turn P w K tg (Itx (sgs l)) [it] it (fun i h => h.IsStrIter it (strIterType (S l)) (S l) t i) where
  mem := by simp
  obj := fun i h st b hb => by
    have e : b = it := by simpa using hb
    subst e
    obtain ⟨o, e, c, d⟩ := st
    exact ⟨o, e, fun v z => by rw [d] at z; cases z⟩
  keep := fun i h h' st k => let ⟨o, e, r⟩ := st; ⟨o, k it (by simp) o e, r⟩
  item := by
    intro X hP hw hK hc i pins s σ H E I hf st hg
    subst hP hw hK
    have hg' : i < l.length := by have : i < (sgs l).length := hg; rwa [sgs_len] at this
    obtain ⟨f0, f1, f2, f3, f4, f5⟩ := hf it (by simp)
    have fin : ∀ (v : Value) (h' : Heap) (tk : Nat), SignAt (S l) i v -> h'.IsStrIter it (strIterType (S l)) (S l) t (i + 1) -> (∀ b o, b ∉ [it] -> s.heap.get? b = some o -> h'.get? b = some o) ->
        ∃ u, some v = some u /\ wpAny (model X.prog X.w) X.A (letOwnedTupleGo tg (.ref it) u) (fun _ s2 => ∃ x H', Inv X pins σ H' s2 /\ RelV x u /\ (Itx (sgs l)).yld i H x H' /\ s2.heap.IsStrIter it (strIterType (S l)) (S l) t (i + 1) /\ ∀ b ∈ [it], H' b = none) E { s with heap := h', toks := tk } := by
      intro v h' tk hv st' kk
      obtain ⟨c, u, e1, e2⟩ := hv
      subst e2
      have I1 : Inv X pins σ H { s with heap := h', toks := tk } := I.turned (fun b o hb e => kk b o (by simpa using hb) e) f0 f1 f3 f4 f5
      obtain ⟨o, e, cc, d⟩ := id st'
      refine ⟨_, rfl, go_of (s := { s with heap := h', toks := tk }) e cc d (by unfold strIterType; split <;> decide) ⟨.str (S [c]), H, I1, ⟨u, rfl⟩, ⟨rfl, ?_⟩, st', fun b hb => (hf b hb).1⟩⟩
      unfold sgs
      rw [List.getElem?_map]
      have e1' : l[i]? = some c := by simpa [S] using e1
      rw [e1']
      rfl
    have hsz : i < (S l).cps.size := by rw [S_size]; exact hg'
    by_cases ha : (S l).cps.all (· < 128) = true
    · have et : strIterType (S l) = "str_ascii_iterator" := by unfold strIterType; rw [if_pos ha]
      rw [et] at st
      exact (Walks.strAscii (prog := X.prog) (w := X.w) (I.ok.hd hc) it (S l) t).item i s _ _ hsz st fun v h' tk hv st' kk => fin v h' tk hv (by rw [et]; exact st') kk
    · have et : strIterType (S l) = "str_iterator" := by unfold strIterType; rw [if_neg ha]
      rw [et] at st
      exact (Walks.strWide (prog := X.prog) (w := X.w) (I.ok.hd hc) it (S l) t).item i s _ _ hsz st fun v h' tk hv st' kk => fin v h' tk hv (by rw [et]; exact st') kk
  done := by
    intro X hP hw hK hc i pins s σ H E I hf st hg
    subst hP hw hK
    obtain ⟨f0, f1, f2, f3, f4, f5⟩ := hf it (by simp)
    have hg' : l.length <= i := by have : (sgs l).length <= i := hg; rwa [sgs_len] at this
    have hx : (S l).cps[i]? = none := by rw [Array.getElem?_eq_none_iff, S_size]; exact hg'
    by_cases ha : (S l).cps.all (· < 128) = true
    · have et : strIterType (S l) = "str_ascii_iterator" := by unfold strIterType; rw [if_pos ha]
      rw [et] at st
      exact wpAny_pyNext_ascii_end (I.ok.hd hc) st hx fun h' eb => ⟨rfl, I.turned (t' := s.toks) (fun b o hb e => eb b o hb e) f0 f1 f3 f4 f5⟩
    · have et : strIterType (S l) = "str_iterator" := by unfold strIterType; rw [if_neg ha]
      rw [et] at st
      exact wpAny_pyNext_wide_end (I.ok.hd hc) st hx fun h' eb => ⟨rfl, I.turned (t' := s.toks) (fun b o hb e => eb b o hb e) f0 f1 f3 f4 f5⟩
  self := fun _ _ s _ _ st h => by
    by_cases ha : (S l).cps.all (· < 128) = true
    · have et : strIterType (S l) = "str_ascii_iterator" := by unfold strIterType; rw [if_pos ha]
      rw [et] at st
      exact wpAny_pyIter_striter_ascii st h
    · have et : strIterType (S l) = "str_iterator" := by unfold strIterType; rw [if_neg ha]
      rw [et] at st
      exact wpAny_pyIter_striter_wide st h
section
variable {X : Cx} {tg : Expr}
noncomputable def iStr (tl : TE) : TI := fun σ H R => tl σ H fun x H1 => ∃ l, x = .str (S l) /\ R (Itx (sgs l)) H1
theorem pi_str {l : Expr} {tl : TE} (hl : PE X l tl) : PI X tg l (iStr tl) := by
  intro pins s σ H R I h
  refine thn (hl pins s σ H _ I h) fun v s1 ⟨x, H1, I1, r1, q1⟩ => ?_
  obtain ⟨l, rfl, q⟩ := q1
  obtain ⟨t, rfl⟩ := r1
  refine wpAny_pyIter_strU ?_
  refine ⟨s1.heap.objs.size, [s1.heap.objs.size], _, _, H1, rfl, I1.kept (t' := s1.toks) fun b o e => Heap.get?_push_of_some _ e, turn_str _ l t, ⟨_, Heap.get?_push_size _ rfl, rfl, rfl⟩, fun b hb => ?_, q⟩
  have e : b = s1.heap.objs.size := by simpa using hb
  subst e
  exact I1.fpOk (Nat.le_refl _) (I1.hok.fresh (Nat.le_refl _))
end
theorem comp_by {J : It} {n : Nat} {xs : Nat -> V -> Prop} {σc : St} {g : TG} {tc : TT} {te : TE} {Q : VK} {H1 : Hp} (Pv : Nat -> List V -> Hp -> Prop) (hn : n < sizeLine) (hgo : ∀ i acc H, i < n -> Pv i acc H -> J.go i H) (hstop : ∀ acc H, Pv n acc H -> J.stop n H)
    (hy : ∀ i acc H x H', i < n -> Pv i acc H -> J.yld i H x H' -> H' = H /\ xs i x) (h0 : Pv 0 [] H1)
    (hs : ∀ (i : Nat) (x : V) (acc : List V) (H : Hp) (Nx : List V -> Hp -> Prop), i < n -> xs i x -> acc.length <= i -> Pv i acc H -> (∀ acc' H', acc'.length <= i + 1 -> Pv (i + 1) acc' H' -> Nx acc' H') ->
      g x σc H fun σ2 H2 => Wk σc σ2 /\ tc σ2 H2 fun b H3 => if b = true then te σ2 H3 fun v H4 => Nx (acc ++ [v]) H4 else Nx acc H3)
    (hd : ∀ acc H D, acc.length <= n -> Pv n acc H -> H D = none -> Q (.ref D) (upd H D (.lst acc))) : CompW J σc g tc te Q H1 := by
  refine ⟨fun i m acc H => m = n - i /\ i <= n /\ acc.length <= i /\ Pv i acc H, ⟨n, by simp, Nat.zero_le _, Nat.le_refl _, h0⟩, ?_⟩
  rintro i m acc H ⟨rfl, hi, hl, p⟩
  refine ⟨by omega, ?_⟩
  by_cases hlt : i < n
  · refine .inr ⟨hgo i acc H hlt p, fun x H' y => ?_⟩
    obtain ⟨rfl, y2⟩ := hy i acc H x H' hlt p y
    exact hs i x acc _ (fun acc' H' => ∃ m', m' < n - i /\ (m' = n - (i + 1) /\ i + 1 <= n /\ acc'.length <= i + 1 /\ Pv (i + 1) acc' H')) hlt y2 hl p fun acc' H' h1 h2 => ⟨n - (i + 1), by omega, rfl, hlt, h1, h2⟩
  · have e : i = n := by omega
    subst e
    exact .inl ⟨hstop acc H p, fun D hD => hd acc H D hl p hD⟩
theorem comp_fix {xs : List V} {σc : St} {g : TG} {tc : TT} {te : TE} {Q : VK} {H1 : Hp} (Pv : Nat -> List V -> Hp -> Prop) (hn : xs.length < sizeLine) (h0 : Pv 0 [] H1)
    (hs : ∀ (i : Nat) (x : V) (acc : List V) (H : Hp) (Nx : List V -> Hp -> Prop), i < xs.length -> xs[i]? = some x -> acc.length <= i -> Pv i acc H -> (∀ acc' H', acc'.length <= i + 1 -> Pv (i + 1) acc' H' -> Nx acc' H') ->
      g x σc H fun σ2 H2 => Wk σc σ2 /\ tc σ2 H2 fun b H3 => if b = true then te σ2 H3 fun v H4 => Nx (acc ++ [v]) H4 else Nx acc H3)
    (hd : ∀ acc H D, acc.length <= xs.length -> Pv xs.length acc H -> H D = none -> Q (.ref D) (upd H D (.lst acc))) : CompW (Itx xs) σc g tc te Q H1 :=
  comp_by (xs := fun i x => xs[i]? = some x) Pv hn (fun i _ _ h _ => h) (fun _ _ _ => Nat.le_refl _) (fun i _ H x H' _ _ y => y) h0 hs hd
theorem comp_rng {lo : Int} {n : Nat} {σc : St} {g : TG} {tc : TT} {te : TE} {Q : VK} {H1 : Hp} (Pv : Nat -> List V -> Hp -> Prop) (hn : n < sizeLine) (h0 : Pv 0 [] H1)
    (hs : ∀ (i : Nat) (acc : List V) (H : Hp) (Nx : List V -> Hp -> Prop), i < n -> acc.length <= i -> Pv i acc H -> (∀ acc' H', acc'.length <= i + 1 -> Pv (i + 1) acc' H' -> Nx acc' H') ->
      g (.int (lo + i)) σc H fun σ2 H2 => Wk σc σ2 /\ tc σ2 H2 fun b H3 => if b = true then te σ2 H3 fun v H4 => Nx (acc ++ [v]) H4 else Nx acc H3)
    (hd : ∀ acc H D, acc.length <= n -> Pv n acc H -> H D = none -> Q (.ref D) (upd H D (.lst acc))) : CompW (Itr lo n) σc g tc te Q H1 :=
  comp_by (xs := fun i x => x = .int (lo + i)) Pv hn (fun i _ _ h _ => h) (fun _ _ _ => Nat.le_refl _) (fun i _ H x H' _ _ y => y) h0 (fun i x acc H Nx h1 h2 => by subst h2; exact hs i acc H Nx h1) hd
noncomputable def tWhileN (c : TT) (tb : TS) : TS := fun D σ H => ∃ W : Nat -> St -> Hp -> Prop, (∃ m, W m σ H) /\ ∀ m σ H, W m σ H ->
  c σ H fun b H1 => if b = true then tb { D with nx := fun σ' H' => ∃ m', m' < m /\ W m' σ' H', ct := fun σ' H' => ∃ m', m' < m /\ W m' σ' H', bk := D.nx } σ H1 else D.nx σ H1
theorem ps_whileN {X : Cx} {c : Expr} {body : List Stmt} {tc : TT} {tb : TS} {pos : Pos} (hp : PassesOwn (model X.prog X.w) X.A X.env X.xe) (hc : PT X c tc) (hb : PSs X body tb) : PS X (.While c body [] pos) (tWhileN tc tb) := by
  intro pins s σ H D I h
  obtain ⟨W, ⟨m0, w0⟩, turn⟩ := h
  refine wpAny_While (codeAny_whileLoop (fun n s' => ∃ σ' H', Inv X pins σ' H' s' /\ W n σ' H') ?_ m0 ⟨σ, H, I, w0⟩)
  rintro n s1 ⟨σ1, H1, I1, w1⟩
  refine wpAny_passesOwn hp (thn (hc pins s1 σ1 H1 _ I1 (turn n σ1 H1 w1)) fun b s2 ⟨H2, I2, q2⟩ => ?_)
  cases b with
  | true =>
    rw [if_pos rfl] at q2 ⊢
    refine wpAny_passesOwn hp (thn (hb pins s2 σ1 H2 _ I2 q2) fun f s3 q3 => ?_)
    cases f with
    | next =>
      obtain ⟨σ3, H3, I3, m', hm, w3⟩ := q3
      exact ⟨m', hm, σ3, H3, I3, w3⟩
    | cont =>
      obtain ⟨σ3, H3, I3, m', hm, w3⟩ := q3
      exact ⟨m', hm, σ3, H3, I3, w3⟩
    | brk => exact q3
    | ret v => exact q3
  | false =>
    rw [if_neg Bool.false_ne_true] at q2 ⊢
    exact wpAny_execs_nil ⟨σ1, H2, I2, q2⟩
noncomputable def compOk (X : Cx) (scope : Scope) : Bool := (scope.names.all fun y => y.2 != .cell) && (scope.kind == .function) && (scope.names.all fun y => y.2 != .free || X.env.kindOf y.1 == some .cell || X.env.kindOf y.1 == some .free) && (scope.names.all fun y => y.2 != .local || scope.names.lookup y.1 == some .local)
theorem compOk_parts {X : Cx} {scope : Scope} (h : compOk X scope = true) : (∀ y ∈ scope.names, y.2 ≠ .cell) /\ scope.kind = .function /\ (∀ y ∈ scope.names, y.2 = .free -> X.env.kindOf y.1 = some .cell \/ X.env.kindOf y.1 = some .free) /\ (∀ x ∈ scope.names, x.2 = .local -> scope.names.lookup x.1 = some .local) := by
  unfold compOk at h
  simp only [Bool.and_eq_true] at h
  obtain ⟨⟨⟨h1, h2⟩, h3⟩, h4⟩ := h
  refine ⟨fun y hy e => ?_, by simpa using h2, fun y hy e => ?_, fun y hy e => ?_⟩
  · have := List.all_eq_true.mp h1 y hy
    rw [e] at this; simp at this
  · have := List.all_eq_true.mp h3 y hy
    rw [e] at this
    simpa using this
  · have := List.all_eq_true.mp h4 y hy
    rw [e] at this
    simpa using this
theorem pe_compB {X : Cx} {tg iter elt : Expr} {ifs : List Expr} {scope : Scope} {pos : Pos} {wi : TI} {g : TG} {tc : TT} {te : TE} (Nc : List Str) (ix : List (Option Nat)) (hi : PI X tg iter wi) (hix : IxOk X scope Nc ix)
    (hG : ∀ C s H fp, PG (cxComp X scope C Nc s H fp) tg g) (hT : ∀ C s H fp, PF (cxComp X scope C Nc s H fp) ifs tc) (hE : ∀ C s H fp, PE (cxComp X scope C Nc s H fp) elt te) (hok : compOk X scope = true := by rfl) (hcalm : X.calm = true := by rfl)
    (hs : ∀ x, foldedSetIterable iter X.env x = pure x := by intro _; rfl) : PE X (.ListComp elt [⟨tg, iter, ifs, 0⟩] scope pos) (tComp wi ix g tc te) :=
  let ⟨h1, h2, h3, h4⟩ := compOk_parts hok
  pe_comp Nc ix hi hcalm hix h1 h2 h3 h4 hG hT hE hs
section
variable {X : Cx}
noncomputable def rEqS : R2 := fun x y H Q => ∃ a b, x = .str (S a) /\ y = .str (S b) /\ Q (.bl (decide (a = b))) H
noncomputable def rNeS : R2 := fun x y H Q => ∃ a b, x = .str (S a) /\ y = .str (S b) /\ Q (.bl (!decide (a = b))) H
theorem op_eqS : OpR X (compareOp .Eq) rEqS := by
  intro pins s σ H x y v u Q I rx ry h
  obtain ⟨a, b, rfl, rfl, q⟩ := h
  exact op_eq pins s σ H _ _ v u Q I rx ry ⟨rfl, by rw [dec_S]; exact q⟩
theorem op_neS : OpR X (compareOp .NotEq) rNeS := by
  intro pins s σ H x y v u Q I rx ry h
  obtain ⟨a, b, rfl, rfl, q⟩ := h
  exact op_ne pins s σ H _ _ v u Q I rx ry ⟨rfl, by rw [dec_S]; exact q⟩
theorem dec_I {i j : Int} : decide (V.int i = V.int j) = decide (i = j) := by
  by_cases h : i = j
  · subst h; simp
  · rw [decide_eq_false h, decide_eq_false]
    intro q
    exact h (V.int.inj q)
theorem op_eqI : OpR X (compareOp .Eq) (rI0 fun i j => .bl (decide (i = j))) := by
  intro pins s σ H x y v u Q I rx ry h
  obtain ⟨a, b, rfl, rfl, q⟩ := h
  exact op_eq pins s σ H _ _ v u Q I rx ry ⟨rfl, by rw [dec_I]; exact q⟩
theorem op_neI : OpR X (compareOp .NotEq) (rI0 fun i j => .bl (!decide (i = j))) := by
  intro pins s σ H x y v u Q I rx ry h
  obtain ⟨a, b, rfl, rfl, q⟩ := h
  exact op_ne pins s σ H _ _ v u Q I rx ry ⟨rfl, by rw [dec_I]; exact q⟩
end
end L2
namespace L2
open PySem PySem.Spec PyProof.Rows
section
variable {X : Cx} {tg : Expr}
theorem ix_listK (K : PySem.W.Frag) (h : X.K = K) : IxR X (rIxL K) := by subst h; exact ix_list
theorem ix_tupK (K : PySem.W.Frag) (h : X.K = K) : IxR X (rIxT K) := by subst h; exact ix_tup
noncomputable def rLenL (K : PySem.W.Frag) : List V -> Hp -> VK -> Prop := fun xs H Q => ∃ p ys, xs = [.ref p] /\ (SqL K H p ys \/ SqT K H p ys) /\ Q (.int ys.length) H
theorem call_len_seqK (K : PySem.W.Frag) (h : X.K = K) : CallR X (.builtin "len") (rLenL K) := by subst h; exact call_len_seq
theorem mt_joinK (K : PySem.W.Frag) (h : X.K = K) : MtR X "str.join" (rJoinS K) := by subst h; exact mt_joinS
noncomputable def rListOf (K : PySem.W.Frag) : List V -> Hp -> VK -> Prop := fun xs H Q => ∃ p ys, xs = [.ref p] /\ (SqL K H p ys \/ SqT K H p ys) /\ ∀ l, H l = none -> Q (.ref l) (upd H l (.lst ys))
theorem call_list_ofK (K : PySem.W.Frag) (h : X.K = K) : CallR X (.type "list") (rListOf K) := by subst h; exact call_list_of
theorem pi_listK (K : PySem.W.Frag) (h : X.K = K) {l : Expr} {tl : TE} (hl : PE X l tl) : PI X tg l (iList K tl) := by subst h; exact pi_list hl
theorem pi_tupK (K : PySem.W.Frag) (h : X.K = K) {l : Expr} {tl : TE} (hl : PE X l tl) : PI X tg l (iTup K tl) := by subst h; exact pi_tup hl
end
section
variable {X : Cx} {o e : Expr} {es : List Expr} {to : TE} {t : TA} {name : Str} {apos cpos : Pos} {T id : String} {r : V -> List V -> Hp -> VK -> Prop}
theorem pe_bm0K (K : PySem.W.Frag) (hK : X.K = K) (pa : PlainAttrs T) (slot : Slot T name id) (hty : typeOf (.builtin id) = pure (.type "method_descriptor")) (hm : MtR X id r) (ho : PE X o to)
    (hbase : attributeBase o name X.env (eval o X.env) = eval o X.env := by rfl) (hline : (apos.endLine == cpos.line) = true := by rfl) : PE X (.Call (.Attribute o name apos) [] [] cpos) (tBM0 K T r to) := by
  subst hK
  exact pe_bm0 pa slot hty hm ho hbase hline
theorem pe_bmK (K : PySem.W.Frag) (hK : X.K = K) (pa : PlainAttrs T) (slot : Slot T name id) (hty : typeOf (.builtin id) = pure (.type "method_descriptor")) (hm : MtR X id r) (ho : PE X o to) (ha : PA X (e :: es) t)
    (hbase : attributeBase o name X.env (eval o X.env) = eval o X.env := by rfl)
    (hfew : ((backTo cpos (starEach (e :: es) X.env)).all (fun x => !x.1) && (backToKw cpos (keywordEach [] X.env)).all (fun x => x.1.isSome)
      && decide ((e :: es).length + ([] : List Keyword).length + (if ([] : List Keyword).isEmpty then 0 else 1) < 30)) = true := by rfl)
    (hline : (apos.endLine == cpos.line) = true := by rfl) (hs : starEach (e :: es) X.env = (false, eval e X.env) :: starEach es X.env := by rfl) (hplain : (backTo cpos (starEach es X.env)).any (·.1) = false := by rfl) :
    PE X (.Call (.Attribute o name apos) (e :: es) [] cpos) (tBM K T r to t) := by
  subst hK
  exact pe_bm pa slot hty hm ho ha hbase hfew hline hs hplain
end
end L2
namespace L2
open PySem PySem.Spec PyProof.Rows
mutual
inductive RdD (K : PySem.W.Frag) (H : Hp) : V -> PyData -> Prop
  | non : RdD K H .non .none
  | bl (b : Bool) : RdD K H (.bl b) (.bool b)
  | int (i : Int) : RdD K H (.int i) (.int i)
  | str (x : Str) : RdD K H (.str x) (.str x)
  | lst {a : Addr} {xs : List V} {ds : List PyData} (h : SqL K H a xs) (r : RdDs K H xs ds) : RdD K H (.ref a) (.list ds)
  | tup {a : Addr} {xs : List V} {ds : List PyData} (h : SqT K H a xs) (r : RdDs K H xs ds) : RdD K H (.ref a) (.tuple ds)
inductive RdDs (K : PySem.W.Frag) (H : Hp) : List V -> List PyData -> Prop
  | nil : RdDs K H [] []
  | cons {x : V} {xs : List V} {d : PyData} {ds : List PyData} (h : RdD K H x d) (r : RdDs K H xs ds) : RdDs K H (x :: xs) (d :: ds)
end
section
variable {X : Cx} {pins : List (Addr × Obj)} {σ : St} {H : Hp} {s : Shared}
mutual
theorem RdD.reads (I : Inv X pins σ H s) : ∀ {x : V} {d : PyData} {u : Value}, RdD X.K H x d -> RelV x u -> ∃ as, Reads s.heap u d as
  | _, _, u, .non, r => by cases (show u = Value.none from r); exact ⟨_, .none⟩
  | _, _, u, .bl b, r => by cases (show u = Value.bool b from r); exact ⟨_, .bool b⟩
  | _, _, u, .int i, r => by obtain ⟨t, rfl⟩ := r; exact ⟨_, .int i t⟩
  | _, _, u, .str x, r => by obtain ⟨t, rfl⟩ := r; exact ⟨_, .str x t⟩
  | _, _, u, .lst (a := a) h q, r => by
    cases (show u = Value.ref a from r)
    obtain ⟨its, rv, pl, _⟩ := I.list h
    obtain ⟨as, ra⟩ := RdDs.reads I q rv
    obtain ⟨o, ho, hc, n, hd⟩ := pl.isList
    exact ⟨_, .list ho hc hd (by simpa using ra)⟩
  | _, _, u, .tup (a := a) h q, r => by
    cases (show u = Value.ref a from r)
    obtain ⟨its, rv, pl, _⟩ := I.tuple h
    obtain ⟨as, ra⟩ := RdDs.reads I q rv
    obtain ⟨o, ho, hc, n, hd⟩ := pl
    exact ⟨_, .tuple ho hc hd (by simpa using ra)⟩
theorem RdDs.reads (I : Inv X pins σ H s) : ∀ {xs : List V} {ds : List PyData} {us : List Value}, RdDs X.K H xs ds -> Vals xs us -> ∃ as, ReadsAll s.heap us ds as
  | _, _, us, .nil, r => by cases r; exact ⟨_, .nil⟩
  | _, _, us, .cons h q, r => by
    cases r with
    | cons r1 r2 =>
      obtain ⟨as, ra⟩ := RdD.reads I h r1
      obtain ⟨bs, rb⟩ := RdDs.reads I q r2
      exact ⟨_, .cons ra rb⟩
end
mutual
theorem RdD.noDict {K : PySem.W.Frag} : ∀ {x : V} {d : PyData}, RdD K H x d -> d.hasDict = false
  | _, _, .non => rfl
  | _, _, .bl b => rfl
  | _, _, .int i => rfl
  | _, _, .str x => rfl
  | _, _, .lst h q => by show PyData.hasDictAll _ = false; exact RdDs.noDict q
  | _, _, .tup h q => by show PyData.hasDictAll _ = false; exact RdDs.noDict q
theorem RdDs.noDict {K : PySem.W.Frag} : ∀ {xs : List V} {ds : List PyData}, RdDs K H xs ds -> PyData.hasDictAll ds = false
  | _, _, .nil => rfl
  | _, _, .cons h q => by
    show (PyData.hasDict _ || PyData.hasDictAll _) = false
    rw [RdD.noDict h, RdDs.noDict q]; rfl
end
end
section
variable {X : Cx}
noncomputable def rNeD (K : PySem.W.Frag) : R2 := fun x y H Q => ∃ dx dy, RdD K H x dx /\ RdD K H y dy /\ (dx.canLay0 = true /\ dy.canLay0 = true) /\ dx.depth <= 60 /\ Q (.bl (!PyData.eqv dx dy)) H
theorem op_neD {k : Nat} (K : PySem.W.Frag) (h : X.K = K) (hr : Room k X.A) : OpR X (compareOp .NotEq) (rNeD K) := by
  subst h
  intro pins s σ H x y v u Q I rx ry h
  obtain ⟨dx, dy, h1, h2, ⟨h3, h4⟩, h5, q⟩ := h
  obtain ⟨as, ra⟩ := h1.reads I rx
  obtain ⟨bs, rb⟩ := h2.reads I ry
  have hu := hr.units
  exact SeqAt.compareNe_reads ra rb h3 h4 (by omega) ⟨.bl _, H, I, rfl, q⟩
theorem pg_tupK (K : PySem.W.Frag) (h : X.K = K) {es : List Expr} {k : Nat} {t : TGs} {n : Nat} {pos : Pos} (hc : X.calm = true) (hs : PGs X es t)
    (hn : (assignEach es X.env).length = n := by rfl) (hst : (assignEach es X.env).findIdx? (·.1) = none := by rfl) : PG X (.Tuple es k pos) (gTup K n t) := by
  subst h
  exact pg_tup hc hs hn hst
end
end L2
namespace L2
open PySem PySem.Spec PyProof.Rows
noncomputable def lesser (a b : List Nat) : List Nat := if b < a then b else a
noncomputable def leastOf : List Nat -> List (List Nat) -> List Nat
  | a, [] => a
  | a, b :: r => leastOf (lesser a b) r
section
variable {X : Cx}
end
end L2
namespace L2
open PySem PySem.Spec PyProof.Rows
section
variable {X : Cx}
theorem op_inK (K : PySem.W.Frag) (h : X.K = K) : OpR X (compareOp .In) (rIn K false) := by subst h; exact op_in_seq
structure SmD (k n : Nat) (d : PyData) : Prop where
  lv : d.leavesShort 13 = true
  sh : d.showable = true
  ly : d.canLay0 = true
  dp : d.depth <= k
  wt : d.weight <= n
structure SmDs (k n : Nat) (ds : List PyData) : Prop where
  lv : PyData.leavesShortAll 13 ds = true
  sh : PyData.showableAll ds = true
  ly : PyData.canLayAll0 ds = true
  dp : PyData.depthAll ds <= k
  wt : PyData.weightAll ds <= n
theorem SmD.str {k n : Nat} {l : List Nat} (h : ∀ c ∈ l, c < 128) (hn : l.length <= n) : SmD k n (.str (S l)) := by
  refine ⟨?_, rfl, ?_, Nat.zero_le _, by show (S l).cps.size <= n; rw [S_size]; exact hn⟩
  · show ((S l).cps.toList.all fun c => decide (c < 16 ^ 8)) = true
    rw [S_list, List.all_eq_true]
    intro c hc
    have := h c hc
    exact decide_eq_true (by omega)
  · show PyData.strOk (S l) = true
    unfold PyData.strOk
    rw [Array.all_eq_true_iff_forall_mem]
    intro c hc
    have : c ∈ l := by simpa [S] using hc
    have := h c this
    simp; omega
theorem SmD.bl {k n : Nat} (b : Bool) : SmD k n (.bool b) := ⟨rfl, rfl, rfl, Nat.zero_le _, Nat.zero_le _⟩
theorem SmD.int {k n : Nat} {i : Int} (h : i.natAbs < 10 ^ 12) (hn : 40 <= n) : SmD k n (.int i) := by
  have hl : i.natAbs.log2 < 40 := by
    by_cases z : i.natAbs = 0
    · rw [z]; decide
    · rw [Nat.log2_lt z]
      exact Nat.lt_trans h (by decide)
  refine ⟨?_, ?_, rfl, Nat.zero_le _, ?_⟩
  · show decide ((PyData.shown (.int i)).length <= 13) = true
    exact decide_eq_true (PyData.shown_int_le h)
  · show decide (i.natAbs.log2 < 1920) = true
    exact decide_eq_true (by omega)
  · show (if i == 0 then 0 else i.natAbs.log2 + 1) <= n
    split <;> omega
theorem SmDs.nil {k n : Nat} : SmDs k n [] := ⟨rfl, rfl, rfl, Nat.zero_le _, Nat.zero_le _⟩
theorem SmDs.cons {k a b n : Nat} {x : PyData} {xs : List PyData} (h : SmD k a x) (t : SmDs k b xs) (hn : a + 1 + b <= n) : SmDs k n (x :: xs) := by
  refine ⟨?_, ?_, ?_, ?_, ?_⟩
  · show (PyData.leavesShort 13 x && PyData.leavesShortAll 13 xs) = true; rw [h.lv, t.lv]; rfl
  · show (PyData.showable x && PyData.showableAll xs) = true; rw [h.sh, t.sh]; rfl
  · show (PyData.canLay0 x && PyData.canLayAll0 xs) = true; rw [h.ly, t.ly]; rfl
  · show max (PyData.depth x) (PyData.depthAll xs) <= k; exact Nat.max_le.mpr ⟨h.dp, t.dp⟩
  · show PyData.weight x + 1 + PyData.weightAll xs <= n
    have := h.wt; have := t.wt; omega
theorem SmD.lst {k n : Nat} {ds : List PyData} (h : SmDs k n ds) : SmD (k + 1) n (.list ds) := ⟨h.lv, h.sh, h.ly, Nat.succ_le_succ h.dp, h.wt⟩
theorem SmD.tup {k n : Nat} {ds : List PyData} (h : SmDs k n ds) : SmD (k + 1) n (.tuple ds) := ⟨h.lv, h.sh, h.ly, Nat.succ_le_succ h.dp, h.wt⟩
theorem SmD.fits {k n : Nat} {d : PyData} (h : SmD k n d) (hn : n <= 2 ^ 20) : d.shown.length <= sizeLine := PyData.shown_fits (by decide) (by decide) h.lv (Nat.le_trans h.wt hn)
noncomputable def RT (d : PyData) : List Nat := d.shown.cps.toList
noncomputable def rReprD (K : PySem.W.Frag) : List V -> Hp -> VK -> Prop := fun xs H Q => ∃ v d, xs = [v] /\ RdD K H v d /\ SmD 40 100000 d /\ Q (.str (S (RT d))) H
theorem call_reprD {k : Nat} (K : PySem.W.Frag) (h : X.K = K) (hr : Room k X.A) : CallR X (.builtin "repr") (rReprD K) := by
  subst h
  intro pins s σ H xs us Q I r h
  obtain ⟨v, d, rfl, h1, h2, q⟩ := h
  have hz := h2.fits (by decide)
  obtain ⟨u, rfl, ru⟩ := vals1 r
  unfold RT at q
  rw [<- S_of] at q
  have onref : ∀ (a : Addr) (d : PyData), RdD X.K H (.ref a) d -> SmD 40 100000 d -> d.shown.length <= sizeLine -> Q (.str d.shown) H -> u = Value.ref a -> wpAny (model X.prog X.w) X.A (call (.builtin "repr") [u]) (EP X pins σ Q) X.xe s := by
    intro a d h1 h2 hz q e
    obtain ⟨as, ra⟩ := h1.reads I (show RelV (.ref a) u from e)
    subst e
    have hu := hr.units
    have := h2.dp
    exact repr_of_reads' (h₀ := s.heap) ra h2.sh (fun z => by rw [h1.noDict] at z; cases z) hr.gd (by omega) (fun _ _ e => e) (fun h' u tk hk => ⟨.str d.shown, H, I.kept (t' := tk) hk, ⟨u, rfl⟩, q⟩) hz
  cases h1 with
  | non => cases (show u = Value.none from ru); exact P.repr_of_none ⟨.str _, H, I.tok _, ⟨_, rfl⟩, q⟩
  | bl b => cases (show u = Value.bool b from ru); exact P.repr_of_bool ⟨.str _, H, I.tok _, ⟨_, rfl⟩, by cases b <;> exact q⟩
  | int i =>
    obtain ⟨t, rfl⟩ := ru
    exact P.repr_of_int (of_decide_eq_true h2.sh) ⟨.str _, H, I.tok _, ⟨_, rfl⟩, q⟩
  | str x =>
    obtain ⟨t, rfl⟩ := ru
    exact P.repr_of_str ⟨.str _, H, I.tok _, ⟨_, rfl⟩, q⟩ hz
  | lst h1 h3 => exact onref _ _ (.lst h1 h3) h2 hz q ru
  | tup h1 h3 => exact onref _ _ (.tup h1 h3) h2 hz q ru
end
end L2
namespace L2
open PySem PySem.Spec PyProof.Rows
noncomputable def reps (n : Nat) (l : List Nat) : List Nat := (List.replicate n l).flatten
theorem reps_succ (n : Nat) (l : List Nat) : reps (n + 1) l = l ++ reps n l := by unfold reps; rw [List.replicate_succ, List.flatten_cons]
theorem reps_len (n : Nat) (l : List Nat) : (reps n l).length = n * l.length := by
  induction n with
  | zero => simp [reps]
  | succ n ih => rw [reps_succ, List.length_append, ih, Nat.succ_mul, Nat.add_comm]
theorem reps_fold (l : List Nat) : ∀ (n : Nat) (acc : Array Nat), ((List.replicate n (S l).cps).foldl (· ++ ·) acc).toList = acc.toList ++ reps n l
  | 0, acc => by simp [reps]
  | n + 1, acc => by
    rw [List.replicate_succ, List.foldl_cons, reps_fold l n, reps_succ]
    simp [S]
noncomputable def rMulS : R2 := fun x y H Q => ∃ (l : List Nat) (i : Int), x = .str (S l) /\ y = .int i /\ (0 <= i /\ i <= 1000000) /\ l.length * i.toNat <= sizeLine /\ Q (.str (S (reps i.toNat l))) H
theorem op_mulS {X : Cx} : OpR X (binaryOp .Mult) rMulS := by
  intro pins s σ H x y v u Q I rx ry h
  obtain ⟨l, i, rfl, rfl, ⟨h0, h1⟩, hz, q⟩ := h
  obtain ⟨t, rfl⟩ := rx
  obtain ⟨t', rfl⟩ := ry
  have hn := line63
  have hln : (S l).length = l.length := S_len l
  have hbig : (l.length : Int) * i <= 2 ^ 63 - 1 := by
    have e : ((l.length * i.toNat : Nat) : Int) = (l.length : Int) * i := by rw [Int.natCast_mul, Int.toNat_of_nonneg h0]
    have : ((l.length * i.toNat : Nat) : Int) <= (sizeLine : Int) := by exact_mod_cast hz
    rw [<- e]; omega
  refine P.mul_str (x := S l) (n := i) (t := t) (u := t') (by
    have e1 : decide (i < -(2 ^ 63 : Int)) = false := decide_eq_false (by omega)
    have e2 : decide (i ≥ 2 ^ 63) = false := decide_eq_false (by omega)
    rw [e1, e2]; rfl) (fun z _ => ?_) (fun z _ => ?_) ?_
  · rw [hln]
    have : (l.length : Int) <= (2 ^ 63 - 1) / i := (Int.le_ediv_iff_mul_le (by omega)).mpr hbig
    omega
  · rw [hln]
    show Builtin.Str.tooLong _ = false
    unfold Builtin.Str.tooLong
    exact decide_eq_false (by omega)
  · by_cases z : i < 1
    · rw [if_pos z]
      have e : i.toNat = 0 := by omega
      rw [e] at q
      exact ⟨by decide, .str _, H, I.tok _, ⟨_, rfl⟩, q⟩
    · rw [if_neg z]
      by_cases z2 : (i == 1 || (S l).length == 0) = true
      · rw [if_pos z2]
        have e : reps i.toNat l = l := by
          rcases Bool.or_eq_true _ _ |>.mp z2 with e | e
          · have e : i = 1 := by simpa using e
            subst e
            show reps 1 l = l
            rw [reps_succ]; simp [reps]
          · have e : l.length = 0 := by rw [hln] at e; simpa using e
            have e : l = [] := List.length_eq_zero_iff.mp e
            subst e
            unfold reps
            simp
        rw [e] at q
        exact ⟨.str _, H, I, ⟨_, rfl⟩, q⟩
      · rw [if_neg z2]
        have e : (⟨(List.replicate i.toNat (S l).cps).foldl (· ++ ·) #[]⟩ : Str) = S (reps i.toNat l) := by
          have := reps_fold l i.toNat #[]
          show _ = (⟨(reps i.toNat l).toArray⟩ : Str)
          congr 1
          apply Array.toList_inj.mp
          rw [this]
          simp
        rw [e]
        refine ⟨?_, .str _, H, I.tok _, ⟨_, rfl⟩, q⟩
        rw [S_len, reps_len, Nat.mul_comm]
        exact hz
end L2
namespace L2
open PySem PySem.Spec PyProof.Rows
section
variable {X : Cx}
end
end L2
namespace L2
open PySem PySem.Spec PyProof.Rows
section
variable {X : Cx} {pins : List (Addr × Obj)} {σ : St} {H : Hp} {s : Shared} {h' : Heap}
theorem Inv.turnLaid {t' : Nat} {ch : List Addr} {T : Addr} {ob : HO} (I : Inv X pins σ H s) (k : ∀ b o, b ∉ ch -> s.heap.get? b = some o -> h'.get? b = some o) (hf : ∀ b ∈ ch, FpOk X pins H b)
    (hT : s.heap.objs.size <= T) (new : ObjOk X.prog X.w (upd H T ob) h' T ob) : Inv X pins σ (upd H T ob) { s with heap := h', toks := t' } := by
  have hn := I.hok.fresh hT
  have nit : ∀ b u, H b = some u -> b ∉ ch := fun b u e z => by rw [(hf b z).1] at e; cases e
  have neT : ∀ b o, s.heap.get? b = some o -> b ≠ T := fun b o e z => absurd (Nat.lt_of_lt_of_le (Heap.lt_size e) hT) (by rw [z]; exact Nat.lt_irrefl _)
  refine I.step (g' := s.gens) (d' := s.drawn) (ch := ch) (fun b hb => ?_) (fun b o _ _ hc e _ => k b o hc e) (fun b o _ _ hc e _ => ⟨o.slots, k b o hc e⟩) (fun b o _ e n => by rw [upd_ne (neT b o e)]; exact n)
    (fun b o hc e => ⟨o, k b o hc e⟩) (fun b xs e => by rw [upd_ne (ne_of_none e hn)]; exact e) (fun b o u e => by rw [upd_ne (ne_of_none e hn)]; exact e) (fun b ps e => ⟨#[], by rw [upd_ne (ne_of_none e hn), e]; simp⟩) (fun m hm => ?_) (fun b u e => ?_) I.bare
  · obtain ⟨_, h2, _, h4, h5, h6⟩ := hf b hb
    exact ⟨h4, h2, h5, h6⟩
  · obtain ⟨o, es, ep, ho, r⟩ := hm
    exact ⟨o, es, ep, k _ o (fun z => (hf _ z).2.1 rfl) ho, r⟩
  · by_cases hb : b = T
    · subst hb; rw [upd_same] at e; cases e; exact new
    · rw [upd_ne hb] at e
      refine (I.hok b u e).stay (fun c v hc q => k c v ?_ q) (fun c q => by rw [upd_ne (ne_of_none q hn)]; exact q) fun c xs q => by rw [upd_ne (ne_of_none q hn)]; exact q
      rcases hc with z | z
      · rw [z]; exact nit b u e
      · exact nit c _ z
theorem Inv.turnedL {t' : Nat} {ch : List Addr} (I : Inv X pins σ H s) (k : ∀ b o, b ∉ ch -> s.heap.get? b = some o -> h'.get? b = some o) (hf : ∀ b ∈ ch, FpOk X pins H b) : Inv X pins σ H { s with heap := h', toks := t' } := by
  have nit : ∀ b u, H b = some u -> b ∉ ch := fun b u e z => by rw [(hf b z).1] at e; cases e
  refine I.step (g' := s.gens) (d' := s.drawn) (ch := ch) (fun b hb => ?_) (fun b o _ _ hc e _ => k b o hc e) (fun b o _ _ hc e _ => ⟨o.slots, k b o hc e⟩) (fun b o _ e n => n)
    (fun b o hc e => ⟨o, k b o hc e⟩) (fun b xs e => e) (fun b o u e => e) (fun b ps e => ⟨#[], by rw [e]; simp⟩) (fun m hm => ?_) (fun b u e => ?_) I.bare
  · obtain ⟨_, h2, _, h4, h5, h6⟩ := hf b hb
    exact ⟨h4, h2, h5, h6⟩
  · obtain ⟨o, es, ep, ho, r⟩ := hm
    exact ⟨o, es, ep, k _ o (fun z => (hf _ z).2.1 rfl) ho, r⟩
  · refine (I.hok b u e).stay (fun c v hc q => k c v ?_ q) (fun c q => q) fun c xs q => q
    rcases hc with z | z
    · rw [z]; exact nit b u e
    · exact nit c _ z
end
noncomputable def ItE (l : List Nat) : It := ⟨fun i _ => i < l.length, fun i H x H' => ∃ T c, l[i]? = some c /\ x = .ref T /\ H T = none /\ H' = upd H T (.tup [.int i, .str (S [c])]), fun i _ => l.length <= i⟩
theorem draws_str {prog : Program} {w : World} {A : Around} (hh : A.handled = none) (it : Addr) (x : Str) (t : Tok) :
    Draws prog w A it [it] x.cps.size (fun i v => ∃ c u, x.cps[i]? = some c /\ v = .str ⟨#[c]⟩ u) (fun i h => h.IsStrIter it (strIterType x) x t i) := by
  by_cases ha : x.cps.all (· < 128) = true
  · have et : strIterType x = "str_ascii_iterator" := by unfold strIterType; rw [if_pos ha]
    rw [et]; exact Draws.strAscii hh it x t
  · have et : strIterType x = "str_iterator" := by unfold strIterType; rw [if_neg ha]
    rw [et]; exact Draws.strWide hh it x t
theorem turn_enumS {P : Program} {w : World} {K : PySem.W.Frag} {elts : List Expr} {k : Nat} {pos : Pos} (e it : Addr) (hei : e ≠ it) (l : List Nat) (t : Tok) :
    Turn P w K (.Tuple elts k pos) (ItE l) [e, it] e (fun i h => i <= l.length /\ (∃ old, IsEnum h e it i old) /\ h.IsStrIter it (strIterType (S l)) (S l) t i) where
  mem := by simp
  obj := fun i h st b hb => by
    obtain ⟨_, ⟨old, he⟩, o, ho, hc, hd⟩ := st
    rcases List.mem_cons.mp hb with z | z
    · rw [z]; exact ⟨_, he, fun v z => by cases z⟩
    · rw [List.mem_singleton.mp z]; exact ⟨o, ho, fun v z => by rw [hd] at z; cases z⟩
  keep := fun i h h' st kp => by
    obtain ⟨h1, ⟨old, he⟩, o, ho, r⟩ := st
    exact ⟨h1, ⟨old, kp e (by simp) _ he⟩, o, kp it (by simp) o ho, r⟩
  item := by
    intro X hP hw hK hc i pins s σ H E I hf st hg
    subst hP hw hK
    obtain ⟨_, st1, st2⟩ := st
    have D := draws_str (prog := X.prog) (w := X.w) (A := X.A.in1) (I.ok.hd hc) it (S l) t
    have W := WalksT.enumerateD D e hei (by simpa using hei) (by simp)
    have hi : i < (S l).cps.size := by rw [S_size]; exact hg
    refine W.item i s _ _ hi ⟨st1, st2⟩ fun T vals h' tk hPt hT hTup hMid hk => ⟨_, rfl, ?_⟩
    refine W.go elts k pos i T { s with heap := h', toks := tk } _ _ hMid fun h2 hst2 hk2 => ?_
    obtain ⟨tt, x, ⟨c, u, hcx, rfl⟩, rfl⟩ := hPt
    have hTw : T ∉ [e, it] := W.apart i T h' hMid
    have hTup2 : h2.IsTuple T #[.int i tt, .str ⟨#[c]⟩ u] := by
      obtain ⟨o, ho, r⟩ := hTup
      exact ⟨o, hk2 T o hTw ho, r⟩
    have hl : l[i]? = some c := by simpa [S] using hcx
    refine ⟨.ref T, upd H T (.tup [.int i, .str (S [c])]), ?_, rfl, ⟨T, c, hl, rfl, I.hok.fresh hT, rfl⟩, ⟨hg, hst2.1, hst2.2⟩, fun b hb => ?_⟩
    · refine I.turnLaid (t' := tk) (h' := h2) (fun b o hb y => hk2 b o hb (hk b o hb y)) hf hT ?_
      exact ⟨by show 2 <= sizeLine; decide, [.int i tt, .str ⟨#[c]⟩ u], .cons ⟨tt, rfl⟩ (.cons ⟨u, rfl⟩ .nil), hTup2⟩
    · rw [upd_ne (fun z : b = T => hTw (z ▸ hb))]; exact (hf b hb).1
  done := by
    intro X hP hw hK hc i pins s σ H E I hf st hg
    subst hP hw hK
    obtain ⟨h1, st1, st2⟩ := st
    have e1 : i = l.length := Nat.le_antisymm h1 hg
    have D := draws_str (prog := X.prog) (w := X.w) (A := X.A.in1) (I.ok.hd hc) it (S l) t
    have W := WalksT.enumerateD D e hei (by simpa using hei) (by simp)
    refine W.done s _ _ ?_ fun h' tk hk => ⟨rfl, I.turnedL (t' := tk) hk hf⟩
    rw [S_size, <- e1]
    exact ⟨st1, st2⟩
  self := fun _ _ s _ _ st h => by
    obtain ⟨_, ⟨old, he⟩, _⟩ := st
    exact wpAny_pyIter_enum he h
noncomputable def iEnumS (ta : TA) : TI := fun σ H R => ta σ H fun vs H1 => ∃ l, vs = [.str (S l)] /\ R (ItE l) H1
theorem pi_enumS {X : Cx} {elts : List Expr} {k : Nat} {pos' : Pos} {a : Expr} {ta : TA} {p pos : Pos} (hg : Gl X "enumerate") (hm : X.mg "enumerate" = none) (ha : PA X [a] ta) (hs : starEach [a] X.env = [(false, eval a X.env)] := by rfl) : PI X (.Tuple elts k pos') (.Call (.Name "enumerate" p) [a] [] pos) (iEnumS ta) := by
  intro pins s σ H R I h
  refine Call_ (ld_blt I hg hm boot_enumerate (PyProof.Rows.callWith_type1 (thn (ha pos pins s σ H _ I h) fun us s1 ⟨vs, H1, I1, r1, q1⟩ => ?_) hs rfl))
  obtain ⟨l, rfl, q⟩ := q1
  obtain ⟨u, rfl, t, rfl⟩ := vals1 r1
  refine call_enumerate_str fun h' he hit hsz hk => ?_
  refine wpAny_pyIter_enum he ?_
  refine ⟨s1.heap.objs.size + 1, [s1.heap.objs.size + 1, s1.heap.objs.size], _, _, H1, rfl, I1.kept (t' := s1.toks) hk, turn_enumS _ _ (Nat.succ_ne_self _) l t, ⟨Nat.zero_le _, ⟨_, he⟩, hit⟩, fun b hb => ?_, q⟩
  have hb2 : s1.heap.objs.size <= b := by
    rcases List.mem_cons.mp hb with z | z
    · rw [z]; exact Nat.le_succ _
    · rw [List.mem_singleton.mp z]; exact Nat.le_refl _
  exact I1.fpOk hb2 (I1.hok.fresh hb2)
theorem for_enum {l : List Nat} {g : TG} {tb : TS} {D : Ends} {σ : St} {H : Hp} (Pv : Nat -> St -> Hp -> Prop) (h0 : Pv 0 σ H)
    (hs : ∀ i c σ H T, l[i]? = some c -> Pv i σ H -> H T = none -> g (.ref T) σ (upd H T (.tup [.int i, .str (S [c])])) fun σ2 H2 => tb { D with nx := Pv (i + 1), ct := Pv (i + 1), bk := D.nx } σ2 H2) (hd : ∀ σ H, Pv l.length σ H -> D.nx σ H) :
    ∃ W : Nat -> Nat -> St -> Hp -> Prop, (∃ m, W 0 m σ H) /\ ∀ i m σ H, W i m σ H ->
      ((ItE l).stop i H /\ D.nx σ H) \/ ((ItE l).go i H /\ ∃ N : St -> Hp -> Prop, (∀ σ' H', N σ' H' -> ∃ m', m' < m /\ W (i + 1) m' σ' H') /\ ∀ x H', (ItE l).yld i H x H' -> g x σ H' fun σ2 H2 => tb { D with nx := N, ct := N, bk := D.nx } σ2 H2) := by
  refine ⟨fun i m σ H => m = l.length - i /\ i <= l.length /\ Pv i σ H, ⟨l.length, by simp, Nat.zero_le _, h0⟩, ?_⟩
  rintro i m σ H ⟨rfl, hi, p⟩
  by_cases hlt : i < l.length
  · refine .inr ⟨hlt, Pv (i + 1), fun σ' H' p' => ⟨l.length - (i + 1), by omega, rfl, hlt, p'⟩, fun x H' y => ?_⟩
    obtain ⟨T, c, hc, rfl, hn, rfl⟩ := y
    exact hs i c σ _ T hc p hn
  · have e : i = l.length := by omega
    subst e
    exact .inl ⟨Nat.le_refl _, hd σ H p⟩
section
variable {X : Cx}
theorem strs_of {ls : List (List Nat)} : ∀ {its : List Value}, Vals (ls.map fun l => V.str (S l)) its -> StrsAre its (ls.map S) := by
  induction ls with
  | nil => intro its r; cases r; exact .nil
  | cons l ls ih =>
    intro its r
    cases r with
    | cons r1 r2 =>
      obtain ⟨t, rfl⟩ := r1
      exact .cons _ t (ih r2)
theorem of_strs : ∀ {its : List Value} {ss : List Str}, StrsAre its ss -> Vals ((ss.map fun x => x.cps.toList).map fun l => V.str (S l)) its
  | _, _, .nil => .nil
  | _, _, .cons x t h => .cons ⟨t, by rw [<- S_of]⟩ (of_strs h)
theorem rising_pw : ∀ (p : Str) (r : List Str), risingS p r = true -> (p :: r).Pairwise fun a b => ¬ b.cps.toList < a.cps.toList
  | p, [], _ => List.pairwise_singleton _ _
  | p, x :: r, h => by
    have h' : (!ltCps x.cps.toList p.cps.toList && risingS x r) = true := h
    rw [Bool.and_eq_true, ltCps_eq] at h'
    have h1 : ¬ x.cps.toList < p.cps.toList := by simpa using h'.1
    have ih := rising_pw x r h'.2
    refine List.pairwise_cons.mpr ⟨fun y hy => ?_, ih⟩
    rcases List.mem_cons.mp hy with z | z
    · rw [z]; exact h1
    · exact List.le_trans (show p.cps.toList <= x.cps.toList from h1) (show x.cps.toList <= y.cps.toList from List.rel_of_pairwise_cons ih z)
theorem sorted_pw {ss : List Str} (h : sortedS ss = true) : (ss.map fun x => x.cps.toList).Pairwise fun a b => ¬ b < a := by
  rw [List.pairwise_map]
  cases ss with
  | nil => exact List.Pairwise.nil
  | cons x r => exact rising_pw x r h
noncomputable def rSortL (K : PySem.W.Frag) : List V -> Hp -> VK -> Prop := fun xs H Q => ∃ (p : Addr) (ls : List (List Nat)), xs = [.ref p] /\ SqL K H p (ls.map fun l => V.str (S l)) /\ ls.length < 64 /\ ∀ (q : Addr) (ls' : List (List Nat)), H q = none -> ls'.Perm ls -> (ls'.Pairwise fun a b => ¬ b < a) -> Q (.ref q) (upd H q (.lst (ls'.map fun l => V.str (S l))))
theorem call_sortedK (K : PySem.W.Frag) (h : X.K = K) : CallR X (.builtin "sorted") (rSortL K) := by
  subst h
  intro pins s σ H xs us Q I r h
  obtain ⟨p, ls, rfl, hq, hn, q⟩ := h
  obtain ⟨u, rfl, ru⟩ := vals1 r
  cases ru
  obtain ⟨its, rv, pl, hz⟩ := I.list hq
  have hlen : its.length = ls.length := by rw [<- rv.length, List.length_map]
  refine sorted_strs (l := p) (vs := its) (ss := ls.map S) pl.isList (strs_of rv) (by omega) fun out ss' h1 h2 h3 => ?_
  obtain ⟨e, he⟩ := sortedAll_at s.heap its out
  have hperm : (ss'.map fun x => x.cps.toList).Perm ls := by
    have := h2.map fun x : Str => x.cps.toList
    rw [List.map_map] at this
    have e2 : ls.map ((fun x : Str => x.cps.toList) ∘ S) = ls := by
      have : ∀ l ∈ ls, ((fun x : Str => x.cps.toList) ∘ S) l = l := fun l _ => S_list l
      calc ls.map _ = ls.map id := List.map_congr_left this
        _ = ls := List.map_id ls
    rwa [e2] at this
  have hl2 := hperm.length_eq
  have h64 : (64 : Nat) < sizeLine := by decide
  have hz2 : ((ss'.map fun x => x.cps.toList).map fun l => V.str (S l)).length <= sizeLine := by rw [List.length_map, hl2]; omega
  refine ⟨.ref (s.heap.objs.size + 1), _, I.laid (t' := s.toks) (a := s.heap.objs.size + 1) (o := .lst ((ss'.map fun x => x.cps.toList).map fun l => V.str (S l))) (fun b o e => sortedAll_old e) (Nat.le_succ _) ⟨hz2, out.toList, e, of_strs h1, by simpa [seqObj] using he⟩, rfl, q _ _ (I.hok.fresh (Nat.le_succ _)) hperm (sorted_pw h3)⟩
end
end L2
namespace L2
open PySem PySem.Spec PyProof.Rows
section
variable {X : Cx}
theorem ones_of {ls : List (List Nat)} {l : List Nat} (h : ls.Perm (l.map fun c => [c])) : ∃ l' : List Nat, ls = l'.map (fun c => [c]) /\ l'.Perm l := by
  refine ⟨ls.flatten, ?_, ?_⟩
  · have hs : ∀ x ∈ ls, ∃ c, x = [c] := fun x hx => by
      obtain ⟨c, _, e⟩ := List.mem_map.mp (h.mem_iff.mp hx)
      exact ⟨c, e.symm⟩
    clear h
    induction ls with
    | nil => rfl
    | cons x ls ih =>
      obtain ⟨c, rfl⟩ := hs x List.mem_cons_self
      rw [List.flatten_cons, List.map_append, <- ih fun y hy => hs y (List.mem_cons_of_mem _ hy)]
      rfl
  · have := h.flatten
    have e : (l.map fun c => [c]).flatten = l := by
      clear h this
      induction l with
      | nil => rfl
      | cons c l ih => rw [List.map_cons, List.flatten_cons, ih]; rfl
    rwa [e] at this
theorem ones_pw {l : List Nat} (h : (l.map fun c => [c]).Pairwise fun a b => ¬ b < a) : l.Pairwise fun a b => a <= b := by
  rw [List.pairwise_map] at h
  refine h.imp fun {a b} z => ?_
  by_cases y : a <= b
  · exact y
  · exact absurd (List.cons_lt_cons_iff.mpr (.inl (by omega))) z
end
end L2
namespace L2
open PySem PySem.Spec PyProof.Rows
section
variable {X : Cx}
end
end L2
namespace L2
open PySem PySem.Spec PyProof.Rows
section
variable {prog : Program} {w : World} {A : Around} {E : Value -> Shared -> Prop} {s : Shared}
theorem nextT_item {it tp : Addr} {j : Nat} {xs : Array Value} {y : Value} {Q : Value -> Shared -> Prop} (hi : s.heap.IsTupleIter it tp j) (ht : s.heap.IsTuple tp xs) (hy : xs[j]? = some y)
    (q : ∀ h2, h2.IsTupleIter it tp (j + 1) -> Heap.SameBut it s.heap h2 -> Q y { s with heap := h2 }) : wpAny (model prog w) A (Builtin.SmallTypes.nextOf (.ref it)) Q E s := by
  obtain ⟨oi, eo, ec, ed⟩ := id hi
  obtain ⟨ot, et, _, nt, dt⟩ := ht
  unfold Builtin.SmallTypes.nextOf
  refine wpAny_bind (wpAny_callSpecial?_slot (name := Str.ofString "__next__") hi.typeIs F.slot_tuple_iterator_next (wpAny_call_entry F.slot_tuple_iterator_next hi.typeIs F.entry_tuple_iterator_next ?_ (F.args_tuple_iterator_next_1 _)))
  refine wpAny_bind (m := field (.ref it) 0) (wpAny_field eo ed (x := .ref tp) rfl ?_)
  show wpAny (model prog w) _ (if (Value.ref tp == Value.none) = true then _ else _) _ E s
  rw [if_neg (show ¬ (Value.ref tp == Value.none) = true from Bool.false_ne_true)]
  refine wpAny_bind (m := field (.ref it) 1) (wpAny_field eo ed (x := .int j 0) rfl ?_)
  refine wpAny_bind (m := seqItems? (.ref tp)) (wpAny_seqItems et dt ?_)
  simp only [Int.toNat_natCast, hy]
  refine wpAny_bind (wpAny_setField eo ed (by simp) (wpAny_pure ⟨y, rfl, wpAny_pure (q _ ⟨_, Heap.get?_update_self _ eo (Obj.isFreed_of_fields (Obj.data_mapFields ed _)), (Obj.cls_mapFields ..).trans ec, by rw [Obj.data_mapFields ed]; simp [rawInt]⟩ (Heap.SameBut.update ..))⟩))
theorem nextT_end {it tp : Addr} {j : Nat} {xs : Array Value} {Q : Value -> Shared -> Prop} (hh : A.handled = none) (hi : s.heap.IsTupleIter it tp j) (ht : s.heap.IsTuple tp xs) (hy : xs[j]? = none)
    (q : ∀ h2 e, Heap.ExtBut it s.heap h2 -> (∃ o, h2.get? e = some o /\ o.cls = .type "StopIteration") -> E (.ref e) { s with heap := h2 }) : wpAny (model prog w) A (Builtin.SmallTypes.nextOf (.ref it)) Q E s := by
  obtain ⟨oi, eo, ec, ed⟩ := id hi
  obtain ⟨ot, et, _, nt, dt⟩ := ht
  unfold Builtin.SmallTypes.nextOf
  refine wpAny_bind (wpAny_callSpecial?_slot (name := Str.ofString "__next__") hi.typeIs F.slot_tuple_iterator_next (wpAny_call_entry F.slot_tuple_iterator_next hi.typeIs F.entry_tuple_iterator_next ?_ (F.args_tuple_iterator_next_1 _)))
  refine wpAny_bind (m := field (.ref it) 0) (wpAny_field eo ed (x := .ref tp) rfl ?_)
  show wpAny (model prog w) _ (if (Value.ref tp == Value.none) = true then _ else _) _ E s
  rw [if_neg (show ¬ (Value.ref tp == Value.none) = true from Bool.false_ne_true)]
  refine wpAny_bind (m := field (.ref it) 1) (wpAny_field eo ed (x := .int j 0) rfl ?_)
  refine wpAny_bind (m := seqItems? (.ref tp)) (wpAny_seqItems et dt ?_)
  simp only [Int.toNat_natCast, hy]
  refine wpAny_bind (wpAny_rule (wpAny_bind (wpAny_setField eo ed (by simp) ?_)))
  refine wpAny_bind (m := newExc (.type "StopIteration") []) ?_
  simp only [newExc, newTuple]
  refine wpAny_bind (wpAny_newObj_type (wpAny_bind (m := firstArgMember _ _) (wpAny_of_eq (a := Value.none) (by first | rfl | (simp only [firstArgMember]; rfl)) (wpAny_newObj_type ?_ (by size_fits)))) (by size_fits))
  simp only [raiseNew]
  refine wpAny_bind (wpAny_handled ?_); first | rw [show A.in1.handled = none from hh] | rw [hh]
  exact wpAny_bind (wpAny_pure (wpAny_throw (q _ _ (((Heap.SameBut.update ..).extBut.push _).push _) ⟨_, Heap.get?_push_size _ rfl, rfl⟩)))
theorem draws_tuple (hh : A.handled = none) (it tp : Addr) (ne : tp ≠ it) (xs : Array Value) :
    Draws prog w A it [it, tp] xs.size (fun i v => xs[i]? = some v) (fun i h => h.IsTupleIter it tp i /\ h.IsTuple tp xs) where
  live := fun _ _ z => let ⟨o, e, _⟩ := z.1; ⟨o, e⟩
  frame := fun _ _ _ z k => by
    obtain ⟨⟨o, e, r⟩, o2, e2, r2⟩ := z
    exact ⟨⟨o, k it (by simp) o e, r⟩, o2, k tp (by simp) o2 e2, r2⟩
  item := fun i s Q E hi z q => nextT_item z.1 z.2 (y := xs[i]) (by simp [hi]) fun h2 z2 sb => q _ h2 s.toks (by simp [hi]) ⟨z2, z.2.extBut sb.extBut ne⟩ sb
  done := fun s Q E z q => nextT_end hh z.1 z.2 (by simp) q
theorem meets_enumT (l : Addr) (items : Array Value) (n : Nat) (dct : Option Addr) (sl : Array (Option Value)) :
    Meets (Builtin.«enumerate.__new__» ⟨[.type "enumerate", .ref l], []⟩) (fun _ R s => s.heap.get? l = some { cls := .type "tuple", dict := dct, data := .seq items n, slots := sl } /\
      R (.ok (.ret (.ref (s.heap.push { cls := .type "tuple_iterator", data := .fields #[.ref l, .int 0 0] }).objs.size)))
        { s with heap := (s.heap.push { cls := .type "tuple_iterator", data := .fields #[.ref l, .int 0 0] }).push { cls := .type "enumerate", data := .fields #[.none, .bool false, .ref s.heap.objs.size, rawInt 0, .none, .none] } }) :=
  .of_wp fun prog w A R s h => by
    obtain ⟨hp, g, d, tk, os⟩ := s; obtain ⟨hl, q⟩ := h; have hsub := sub_enumerate
    have hT : Heap.IsTuple (Shared.heap ⟨hp, g, d, tk, os⟩) l items := ⟨_, hl, rfl, n, rfl⟩
    wp_walk using AutoSeq1.wpAny_loadPart' hl
    refine wpAny_stack_any fun st => wpAny_pure ?_
    split
    · rename_i c _ _ _ _ _
      cases (c == Value.type "enumerate") <;> (wp_walk using AutoSeq1.wpAny_loadPart' hl, wpAny_pyIter_tuple hT; exact ⟨_, rfl, q⟩)
    · wp_walk using AutoSeq1.wpAny_loadPart' hl, wpAny_pyIter_tuple hT
      exact ⟨_, rfl, q⟩
theorem call_enumT {l : Addr} {items : Array Value} {Q : Value -> Shared -> Prop} (hL : s.heap.IsTuple l items)
    (h : ∀ h', IsEnum h' (s.heap.objs.size + 1) s.heap.objs.size 0 .none -> h'.IsTupleIter s.heap.objs.size l 0 -> (∀ b o, s.heap.get? b = some o -> h'.get? b = some o) -> Q (.ref (s.heap.objs.size + 1)) { s with heap := h' }) :
    wpAny (model prog w) A (call (.type "enumerate") [.ref l]) Q E s := by
  obtain ⟨⟨c, dct, dt, sl⟩, hl, hc, n, hd⟩ := hL
  cases (show c = .type "tuple" from hc)
  cases (show dt = .seq items n from hd)
  refine callType_new F.called_enumerate (by decide) (F.typeCall_enumerate_1 _) (F.newCall_enumerate_1 _) (fun ob => F.args_object_init_2 ob _) F.entry_enumerate_new (meets_enumT l items n dct sl) ⟨hl, ?_⟩
  have hz : (s.heap.push { cls := .type "tuple_iterator", data := .fields #[.ref l, .int 0 0] }).objs.size = s.heap.objs.size + 1 := Heap.size_push ..
  show _ /\ _
  rw [hz]
  have he : IsEnum ((s.heap.push { cls := .type "tuple_iterator", data := .fields #[.ref l, .int 0 0] }).push { cls := .type "enumerate", data := .fields #[.none, .bool false, .ref s.heap.objs.size, rawInt 0, .none, .none] }) (s.heap.objs.size + 1) s.heap.objs.size 0 .none := by
    have := Heap.get?_push_size (s.heap.push { cls := .type "tuple_iterator", data := .fields #[.ref l, .int 0 0] }) (o := { cls := .type "enumerate", data := .fields #[.none, .bool false, .ref s.heap.objs.size, rawInt 0, .none, .none] }) rfl
    rwa [hz] at this
  exact ⟨⟨_, he, rfl⟩, h _ he ⟨_, Heap.get?_push_of_some _ (Heap.get?_push_size _ rfl), rfl, rfl⟩ fun b o x => Heap.get?_push_of_some _ (Heap.get?_push_of_some _ x)⟩
end
noncomputable def ItET (K : PySem.W.Frag) (a : Addr) : It := ⟨fun i H => ∃ xs x, SqT K H a xs /\ xs[i]? = some x, fun i H x H' => ∃ T y, (∀ xs, SqT K H a xs -> xs[i]? = some y) /\ x = .ref T /\ H T = none /\ H' = upd H T (.tup [.int i, y]), fun i H => ∃ xs, SqT K H a xs /\ xs.length = i⟩
theorem turn_enumT {P : Program} {w : World} {K : PySem.W.Frag} {elts : List Expr} {k : Nat} {pos : Pos} (e it a : Addr) (hei : e ≠ it) (hae : a ≠ e) (hai : a ≠ it) :
    Turn P w K (.Tuple elts k pos) (ItET K a) [e, it] e (fun i h => (∃ old, IsEnum h e it i old) /\ h.IsTupleIter it a i) where
  mem := by simp
  obj := fun i h st b hb => by
    obtain ⟨⟨old, he⟩, o, ho, hc, hd⟩ := st
    rcases List.mem_cons.mp hb with z | z
    · rw [z]; exact ⟨_, he, fun v z => by cases z⟩
    · rw [List.mem_singleton.mp z]; exact ⟨o, ho, fun v z => by rw [hd] at z; cases z⟩
  keep := fun i h h' st kp => by
    obtain ⟨⟨old, he⟩, o, ho, r⟩ := st
    exact ⟨⟨old, kp e (by simp) _ he⟩, o, kp it (by simp) o ho, r⟩
  item := by
    intro X hP hw hK hc i pins s σ H E I hf st hg
    subst hP hw hK
    obtain ⟨st1, st2⟩ := st
    obtain ⟨xs, x, hq, hx⟩ := hg
    obtain ⟨its, rv, p, hz⟩ := I.tuple hq
    obtain ⟨u0, hu, ru⟩ := rv.get hx
    have D := draws_tuple (prog := X.prog) (w := X.w) (A := X.A.in1) (I.ok.hd hc) it a hai its.toArray
    have W := WalksT.enumerateD D e hei (by simp; exact ⟨hei, Ne.symm hae⟩) (by simp)
    have hil : i < its.toArray.size := by rw [List.size_toArray]; exact (List.getElem?_eq_some_iff.mp hu).1
    refine W.item i s _ _ hil ⟨st1, st2, p⟩ fun T vals h' tk hPt hT hTup hMid hk => ⟨_, rfl, ?_⟩
    refine W.go elts k pos i T { s with heap := h', toks := tk } _ _ hMid fun h2 hst2 hk2 => ?_
    obtain ⟨tt, x2, hx2, rfl⟩ := hPt
    have ex : x2 = u0 := by
      rw [List.getElem?_toArray] at hx2
      exact Option.some.inj (hx2.symm.trans hu)
    subst ex
    have hTw : T ∉ [e, it] := W.apart i T h' hMid
    have hTup2 : h2.IsTuple T #[.int i tt, x2] := by
      obtain ⟨o, ho, r⟩ := hTup
      exact ⟨o, hk2 T o hTw ho, r⟩
    refine ⟨.ref T, upd H T (.tup [.int i, x]), ?_, rfl, ⟨T, x, fun ys hy => by rw [I.tuple_inj hy hq]; exact hx, rfl, I.hok.fresh hT, rfl⟩, ⟨hst2.1, hst2.2.1⟩, fun b hb => ?_⟩
    · refine I.turnLaid (t' := tk) (h' := h2) (fun b o hb y => hk2 b o hb (hk b o hb y)) hf hT ?_
      exact ⟨by show 2 <= sizeLine; decide, [.int i tt, x2], .cons ⟨tt, rfl⟩ (.cons ru .nil), hTup2⟩
    · rw [upd_ne (fun z : b = T => hTw (z ▸ hb))]; exact (hf b hb).1
  done := by
    intro X hP hw hK hc i pins s σ H E I hf st hg
    subst hP hw hK
    obtain ⟨st1, st2⟩ := st
    obtain ⟨xs, hq, hx⟩ := hg
    obtain ⟨its, rv, p, hz⟩ := I.tuple hq
    have hl := rv.length
    have D := draws_tuple (prog := X.prog) (w := X.w) (A := X.A.in1) (I.ok.hd hc) it a hai its.toArray
    have W := WalksT.enumerateD D e hei (by simp; exact ⟨hei, Ne.symm hae⟩) (by simp)
    refine W.done s _ _ ?_ fun h' tk hk => ⟨rfl, I.turnedL (t' := tk) hk hf⟩
    have e1 : its.toArray.size = i := by rw [List.size_toArray]; omega
    rw [e1]
    exact ⟨st1, st2, p⟩
  self := fun _ _ s _ _ st h => by
    obtain ⟨⟨old, he⟩, _⟩ := st
    exact wpAny_pyIter_enum he h
noncomputable def iEnumT (K : PySem.W.Frag) (ta : TA) : TI := fun σ H R => ta σ H fun vs H1 => ∃ a, vs = [.ref a] /\ (∃ xs, SqT K H1 a xs) /\ R (ItET K a) H1
theorem pi_enumT {X : Cx} (K : PySem.W.Frag) (hK : X.K = K) {elts : List Expr} {k : Nat} {pos' : Pos} {a : Expr} {ta : TA} {p pos : Pos} (hg : Gl X "enumerate") (hm : X.mg "enumerate" = none) (ha : PA X [a] ta) (hs : starEach [a] X.env = [(false, eval a X.env)] := by rfl) : PI X (.Tuple elts k pos') (.Call (.Name "enumerate" p) [a] [] pos) (iEnumT K ta) := by
  subst hK
  intro pins s σ H R I h
  refine Call_ (ld_blt I hg hm boot_enumerate (PyProof.Rows.callWith_type1 (thn (ha pos pins s σ H _ I h) fun us s1 ⟨vs, H1, I1, r1, q1⟩ => ?_) hs rfl))
  obtain ⟨b, rfl, ⟨xs, hq⟩, q⟩ := q1
  obtain ⟨u, rfl, ru⟩ := vals1 r1
  cases ru
  obtain ⟨its, rv, pl, hz⟩ := I1.tuple hq
  obtain ⟨ob, eb, _⟩ := id pl
  have hlt : b < s1.heap.objs.size := Heap.lt_size eb
  refine call_enumT pl fun h' he hit hk => wpAny_pyIter_enum he ?_
  refine ⟨s1.heap.objs.size + 1, [s1.heap.objs.size + 1, s1.heap.objs.size], _, _, H1, rfl, I1.kept (t' := s1.toks) hk, turn_enumT _ _ b (Nat.succ_ne_self _) (Nat.ne_of_lt (Nat.lt_succ_of_lt hlt)) (Nat.ne_of_lt hlt), ⟨⟨_, he⟩, hit⟩, fun c hb => ?_, q⟩
  have hb2 : s1.heap.objs.size <= c := by
    rcases List.mem_cons.mp hb with z | z
    · rw [z]; exact Nat.le_succ _
    · rw [List.mem_singleton.mp z]; exact Nat.le_refl _
  exact I1.fpOk hb2 (I1.hok.fresh hb2)
theorem for_enumT {K : PySem.W.Frag} {a : Addr} {xs : List V} {g : TG} {tb : TS} {D : Ends} {σ : St} {H : Hp} (Pv : Nat -> St -> Hp -> Prop) (h0 : Pv 0 σ H) (hl : ∀ i σ H, i <= xs.length -> Pv i σ H -> SqT K H a xs)
    (hs : ∀ i x σ H T, xs[i]? = some x -> Pv i σ H -> H T = none -> g (.ref T) σ (upd H T (.tup [.int i, x])) fun σ2 H2 => tb { D with nx := Pv (i + 1), ct := Pv (i + 1), bk := D.nx } σ2 H2) (hd : ∀ σ H, Pv xs.length σ H -> D.nx σ H) :
    ∃ W : Nat -> Nat -> St -> Hp -> Prop, (∃ m, W 0 m σ H) /\ ∀ i m σ H, W i m σ H ->
      ((ItET K a).stop i H /\ D.nx σ H) \/ ((ItET K a).go i H /\ ∃ N : St -> Hp -> Prop, (∀ σ' H', N σ' H' -> ∃ m', m' < m /\ W (i + 1) m' σ' H') /\ ∀ x H', (ItET K a).yld i H x H' -> g x σ H' fun σ2 H2 => tb { D with nx := N, ct := N, bk := D.nx } σ2 H2) := by
  refine ⟨fun i m σ H => m = xs.length - i /\ i <= xs.length /\ Pv i σ H, ⟨xs.length, by simp, Nat.zero_le _, h0⟩, ?_⟩
  rintro i m σ H ⟨rfl, hi, p⟩
  have hq := hl i σ H hi p
  by_cases hlt : i < xs.length
  · refine .inr ⟨⟨xs, xs[i], hq, by simp [hlt]⟩, Pv (i + 1), fun σ' H' p' => ⟨xs.length - (i + 1), by omega, rfl, hlt, p'⟩, fun x H' y => ?_⟩
    obtain ⟨T, z, hz, rfl, hn, rfl⟩ := y
    exact hs i z σ _ T (hz xs hq) p hn
  · have e : i = xs.length := by omega
    subst e
    exact .inl ⟨⟨xs, hq, rfl⟩, hd σ H p⟩
theorem comp_enum {l : List Nat} {σc : St} {g : TG} {tc : TT} {te : TE} {Q : VK} {H1 : Hp} (Pv : Nat -> List V -> Hp -> Prop) (hn : l.length < sizeLine) (h0 : Pv 0 [] H1)
    (hs : ∀ (i c : Nat) (acc : List V) (H : Hp) (T : Addr) (Nx : List V -> Hp -> Prop), l[i]? = some c -> acc.length <= i -> Pv i acc H -> H T = none -> (∀ acc' H', acc'.length <= i + 1 -> Pv (i + 1) acc' H' -> Nx acc' H') ->
      g (.ref T) σc (upd H T (.tup [.int i, .str (S [c])])) fun σ2 H2 => Wk σc σ2 /\ tc σ2 H2 fun b H3 => if b = true then te σ2 H3 fun v H4 => Nx (acc ++ [v]) H4 else Nx acc H3)
    (hd : ∀ acc H D, acc.length <= l.length -> Pv l.length acc H -> H D = none -> Q (.ref D) (upd H D (.lst acc))) : CompW (ItE l) σc g tc te Q H1 := by
  refine ⟨fun i m acc H => m = l.length - i /\ i <= l.length /\ acc.length <= i /\ Pv i acc H, ⟨l.length, by simp, Nat.zero_le _, Nat.le_refl _, h0⟩, ?_⟩
  rintro i m acc H ⟨rfl, hi, hl, p⟩
  refine ⟨by omega, ?_⟩
  by_cases hlt : i < l.length
  · refine .inr ⟨hlt, fun x H' y => ?_⟩
    obtain ⟨T, c, hc, rfl, hT, rfl⟩ := y
    exact hs i c acc _ T (fun acc' H' => ∃ m', m' < l.length - i /\ (m' = l.length - (i + 1) /\ i + 1 <= l.length /\ acc'.length <= i + 1 /\ Pv (i + 1) acc' H')) hc hl p hT fun acc' H' h1 h2 => ⟨l.length - (i + 1), by omega, rfl, hlt, h1, h2⟩
  · have e : i = l.length := by omega
    subst e
    exact .inl ⟨Nat.le_refl _, fun D hD => hd acc H D hl p hD⟩
section
variable {X : Cx}
noncomputable def rListAny (K : PySem.W.Frag) : List V -> Hp -> VK -> Prop := fun xs H Q => (∃ l : List Nat, xs = [.str (S l)] /\ l.length <= sizeLine /\ ∀ p, H p = none -> Q (.ref p) (upd H p (.lst (sgs l)))) \/ rListOf K xs H Q
theorem call_listAny (K : PySem.W.Frag) (h : X.K = K) (hc : X.calm = true) : CallR X (.type "list") (rListAny K) := by
  intro pins s σ H xs us Q I r q
  rcases q with q | q
  · exact call_listS hc pins s σ H xs us Q I r q
  · exact call_list_ofK K h pins s σ H xs us Q I r q
end
end L2
namespace L2
open PySem PySem.Spec PyProof.Rows
section
variable {X : Cx}
noncomputable def rTupOf (K : PySem.W.Frag) : List V -> Hp -> VK -> Prop := fun xs H Q => ∃ p ys, xs = [.ref p] /\ ((SqL K H p ys /\ ∀ l, H l = none -> Q (.ref l) (upd H l (.tup ys))) \/ (SqT K H p ys /\ Q (.ref p) H))
theorem call_tuple_ofK (K : PySem.W.Frag) (h : X.K = K) : CallR X (.type "tuple") (rTupOf K) := by subst h; exact call_tuple_of
end
end L2
namespace L2
open PySem PySem.Spec PyProof.Rows
theorem inV_two (l a b : Nat) : inV (.str (S [l])) [.str (S [a]), .str (S [b])] = (decide (l = a) || decide (l = b)) := by
  have key : ∀ c : Nat, eqV (.str (S [c])) (.str (S [l])) = decide (l = c) := fun c => by
    show decide (S [c] = S [l]) = _
    refine decide_eq_decide.mpr ⟨fun z => ?_, fun z => by rw [z]⟩
    have := congrArg (fun x : Str => x.cps.toList) z
    simpa [S, eq_comm] using this
  unfold inV
  rw [List.any_cons, List.any_cons, List.any_nil, key, key, Bool.or_false]
noncomputable def TSame (H H' : Hp) : Prop := ∀ c xs, H c = some (.tup xs) -> H' c = some (.tup xs)
theorem TSame.trans {H H1 H2 : Hp} (a : TSame H H1) (b : TSame H1 H2) : TSame H H2 := fun c xs h => b c xs (a c xs h)
theorem TSame.of {H H' : Hp} (s : Same H H') : TSame H H' := fun c xs h => s c _ h
theorem TSame.updL {H : Hp} {p : Addr} {ys : List V} {o : HO} (h : H p = some (.lst ys)) : TSame H (upd H p o) := fun c xs e => by
  rw [upd_ne (fun z => by rw [z, h] at e; cases e)]; exact e
theorem TSame.updN {H : Hp} {p : Addr} {o : HO} (h : H p = none) : TSame H (upd H p o) := fun c xs e => by
  rw [upd_ne (fun z => by rw [z, h] at e; cases e)]; exact e
end L2
namespace L2
open PySem PySem.Spec PyProof.Rows
section
variable {prog : Program} {w : World} {A : Around} {E : Value -> Shared -> Prop} {s : Shared}
noncomputable def PairAt (h : Heap) (v : Value) (n : Int × Int) : Prop := ∃ x ox t1 t2 m, v = .ref x /\ h.get? x = some ox /\ ox.cls = .type "tuple" /\ ox.data = .seq #[.int n.1 t1, .int n.2 t2] m
noncomputable def pairLt (x y : Int × Int) : Bool := decide (x.1 < y.1) || (decide (x.1 = y.1) && decide (x.2 < y.2))
theorem PairAt.keep {h h' : Heap} {v : Value} {n : Int × Int} (p : PairAt h v n) (k : ∀ b o, h.get? b = some o -> h'.get? b = some o) : PairAt h' v n := by
  obtain ⟨x, ox, t1, t2, m, e1, e2, r⟩ := p
  exact ⟨x, ox, t1, t2, m, e1, k _ _ e2, r⟩
theorem pair_lt {u v : Value} {a c : Int × Int} {Q : Bool -> Shared -> Prop} (hx : PairAt s.heap u a) (hy : PairAt s.heap v c) (q : Q (pairLt a c) s) : wpAny (model prog w) A (keyLt' (tuples' true) u v) Q E s := by
  obtain ⟨x, ox, t1, t2, n, rfl, gx, _, dx⟩ := hx
  obtain ⟨y, oy, t3, t4, k, rfl, gy, _, dy⟩ := hy
  refine PySem.W.kat_lt gx dx gy dy ?_
  refine PySem.W.kat_cons (wpAny_eqBool_int ?_)
  unfold pairLt at q
  by_cases h : a.1 = c.1
  · rw [show (a.1 == c.1) = true by simp [h]]
    refine PySem.W.kat_yes (PySem.W.kat_cons (wpAny_eqBool_int ?_))
    by_cases h2 : a.2 = c.2
    · rw [show (a.2 == c.2) = true by simp [h2]]
      refine PySem.W.kat_yes (PySem.W.kat_nil ?_)
      simpa [h, h2] using q
    · rw [show (a.2 == c.2) = false by simp [h2]]
      refine PySem.W.kat_no (PySem.W.kat_one _ _ (lt_int ?_))
      show Q (decide (a.2 < c.2)) s
      simpa [h] using q
  · rw [show (a.1 == c.1) = false by simp [h]]
    refine PySem.W.kat_no ?_
    show wpAny (model prog w) A (keyLt' oneType' _ _) Q _ s
    refine PySem.W.kat_lt_int ?_
    simpa [h] using q
noncomputable def PairsAt (h : Heap) : List Value -> List (Int × Int) -> Prop
  | [], [] => True
  | v :: vs, n :: ns => PairAt h v n /\ PairsAt h vs ns
  | _, _ => False
theorem PairsAt.keep {h h' : Heap} (k : ∀ b o, h.get? b = some o -> h'.get? b = some o) : ∀ {vs : List Value} {ns : List (Int × Int)}, PairsAt h vs ns -> PairsAt h' vs ns
  | [], [], _ => trivial
  | _ :: _, _ :: _, ⟨a, b⟩ => ⟨a.keep k, PairsAt.keep k b⟩
theorem PairsAt.get {h : Heap} : ∀ {vs : List Value} {ns : List (Int × Int)} {i : Nat}, PairsAt h vs ns -> (hi : i < vs.length) -> ∃ n, ns[i]? = some n /\ PairAt h (vs.getD i Value.none) n
  | [], [], i, _, hi => absurd hi (Nat.not_lt_zero _)
  | v :: vs, n :: ns, 0, ⟨a, _⟩, _ => ⟨n, rfl, a⟩
  | v :: vs, n :: ns, i + 1, ⟨_, b⟩, hi => by
    obtain ⟨m, e, p⟩ := PairsAt.get (i := i) b (Nat.lt_of_succ_lt_succ hi)
    exact ⟨m, e, p⟩
theorem PairsAt.tups {h : Heap} : ∀ {vs : List Value} {ns : List (Int × Int)}, PairsAt h vs ns -> ∃ fs, PySem.W.KatTups h vs fs /\ fs.length = vs.length /\ ∀ v ∈ fs, ∃ i t, v = Value.int i t
  | [], [], _ => ⟨[], trivial, rfl, fun _ h => absurd h List.not_mem_nil⟩
  | v :: vs, n :: ns, ⟨⟨x, ox, t1, t2, m, e1, e2, e3, e4⟩, b⟩ => by
    obtain ⟨fs, k1, k2, k3⟩ := PairsAt.tups b
    refine ⟨.int n.1 t1 :: fs, ⟨⟨x, ox, _, m, e1, e2, e3, e4, rfl⟩, k1⟩, by simp [k2], fun u hu => ?_⟩
    rcases List.mem_cons.mp hu with z | z
    · exact ⟨_, _, z⟩
    · exact k3 u z
theorem zip_snd : ∀ l : List Value, (l.zip l).map (fun x => x.2) = l
  | [] => rfl
  | v :: l => by rw [List.zip_cons_cons, List.map_cons, zip_snd l]
theorem PairsAt.ne {h : Heap} {vs : List Value} {ns : List (Int × Int)} (p : PairsAt h vs ns) {a : Addr} (ha : h.objs.size <= a) : ∀ v ∈ vs, v ≠ .ref a := fun v hv z => by
  obtain ⟨i, hi, e⟩ := List.mem_iff_getElem.mp hv
  obtain ⟨n, _, x, ox, t1, t2, m, e1, e2, _⟩ := p.get (i := i) hi
  have e3 : vs.getD i Value.none = v := by rw [List.getD_eq_getElem?_getD, List.getElem?_eq_getElem hi, e]; rfl
  rw [e3, z] at e1
  cases e1
  exact absurd (Nat.lt_of_lt_of_le (Heap.lt_size e2) ha) (Nat.lt_irrefl _)
end
section
variable {X : Cx}
noncomputable def PrsV (K : PySem.W.Frag) (H : Hp) : List V -> List (Int × Int) -> Prop
  | [], [] => True
  | v :: vs, n :: ns => (∃ t, v = .ref t /\ SqT K H t [.int n.1, .int n.2]) /\ PrsV K H vs ns
  | _, _ => False
theorem PrsV.at {pins : List (Addr × Obj)} {σ : St} {H : Hp} {s : Shared} (I : Inv X pins σ H s) : ∀ {vs : List V} {ns : List (Int × Int)} {us : List Value}, PrsV X.K H vs ns -> Vals vs us -> PairsAt s.heap us ns
  | [], [], _, _, .nil => trivial
  | v :: vs, n :: ns, _, ⟨⟨t, e, h⟩, b⟩, .cons r rs => by
    subst e
    cases r
    obtain ⟨its, rv, p, _⟩ := I.tuple h
    obtain ⟨u1, u2, e1, ⟨t1, r1⟩, ⟨t2, r2⟩⟩ := vals2 rv
    subst e1 r1 r2
    obtain ⟨o, ho, hc, m, hd⟩ := p
    exact ⟨⟨t, o, t1, t2, m, rfl, ho, hc, hd⟩, PrsV.at I b rs⟩
end
end L2
namespace L2
open PySem PySem.Spec PyProof.Rows
section
variable {prog : Program} {w : World} {A : Around} {E : Value -> Shared -> Prop} {s : Shared}
noncomputable def TupAt (h : Heap) (k : Nat) (v : Value) (ns : List Int) : Prop := ∃ x ox us m, v = .ref x /\ h.get? x = some ox /\ ox.cls = .type "tuple" /\ ox.data = .seq us m /\ IntsAre us.toList ns /\ ns.length = k + 1
noncomputable def TupsAt (h : Heap) (k : Nat) : List Value -> List (List Int) -> Prop
  | [], [] => True
  | v :: vs, n :: ns => TupAt h k v n /\ TupsAt h k vs ns
  | _, _ => False
end
section
variable {X : Cx}
noncomputable def TpsV (K : PySem.W.Frag) (H : Hp) (k : Nat) : List V -> List (List Int) -> Prop
  | [], [] => True
  | v :: vs, n :: ns => (∃ t, v = .ref t /\ SqT K H t (n.map V.int) /\ n.length = k + 1) /\ TpsV K H k vs ns
  | _, _ => False
end
end L2
namespace HT
open PySem PySem.Spec PyProof.Rows
section
variable {prog : Program} {w : World} {A : Around} {E : Value -> Shared -> Prop} {s : Shared}
theorem fm_congr {α β : Type} {f g : α -> Option β} : ∀ {l : List α}, (∀ a ∈ l, f a = g a) -> l.filterMap f = l.filterMap g
  | [], _ => rfl
  | a :: l, h => by rw [List.filterMap_cons, List.filterMap_cons, h a List.mem_cons_self, fm_congr fun b hb => h b (List.mem_cons_of_mem _ hb)]
theorem pick_back (xs : Array Value) : ((List.range xs.size).filterMap fun (m : Nat) => xs[(((xs.size : Int) - 1) + (m : Int) * -1).toNat]?).toArray = xs.toList.reverse.toArray := by
  have e : ((List.range xs.size).filterMap fun (m : Nat) => xs[(((xs.size : Int) - 1) + (m : Int) * -1).toNat]?) = ((List.range xs.size).map fun k => xs.size - 1 - k).filterMap (xs[·]?) := by
    rw [List.filterMap_map]
    refine fm_congr fun m hm => ?_
    have := List.mem_range.mp hm
    show xs[_]? = xs[xs.size - 1 - m]?
    congr 1
    omega
  rw [e, PySem.W.krv_range, List.filterMap_reverse, PySem.W.krv_all]
theorem sliceApplied_back {sl : Addr} {vk : Value} {n : Nat} {Q : Int × Int × Nat -> Shared -> Prop} (hs : s.heap.IsSliceOf sl .none .none vk) (pk : IsPart vk (some (-1))) (h : Q ((n : Int) - 1, -1, n) s) : wpAny (model prog w) A (Builtin.Slice.sliceApplied (.ref sl) (pure (n : Int))) Q E s := by
  obtain ⟨os, hos, hcs, hds⟩ := id hs
  unfold Builtin.Slice.sliceApplied Builtin.Slice.sliceFields
  refine wpAny_bind (wpAny_bind (wpAny_field hos hds (x := .none) rfl (wpAny_bind (wpAny_field hos hds (x := .none) rfl (wpAny_bind (wpAny_field hos hds (x := vk) rfl (wpAny_pure ?_)))))))
  refine wpAny_bind (slicePart_ pk ?_)
  show wpAny _ _ (if ((-1 : Int) == 0) = true then _ else _) _ _ s
  rw [if_neg (by decide)]
  refine wpAny_bind (slicePart_none (wpAny_bind (slicePart_none (wpAny_bind (wpAny_pure ?_)))))
  have e : Builtin.Slice.sliceAdjust none none (-1) (n : Int) = ((n : Int) - 1, -1) := by
    unfold Builtin.Slice.sliceAdjust
    simp
  have e2 : Builtin.Slice.slicePlaces ((n : Int) - 1) (-1) (-1) = n := by
    unfold Builtin.Slice.slicePlaces
    simp
    omega
  show wpAny _ _ (match Builtin.Slice.sliceAdjust none none (-1) (n : Int) with | (lo, hi) => pure (lo, (-1 : Int), Builtin.Slice.slicePlaces lo hi (-1))) _ _ s
  rw [e]
  show wpAny _ _ (pure ((n : Int) - 1, (-1 : Int), Builtin.Slice.slicePlaces ((n : Int) - 1) (-1) (-1))) _ _ s
  rw [e2]
  exact wpAny_pure h
theorem getItem_tuple_back {t sl : Addr} {items : Array Value} {vk : Value} {Q : Value -> Shared -> Prop} (ht : IsTup s.heap t items) (hs : s.heap.IsSliceOf sl .none .none vk) (pk : IsPart vk (some (-1)))
    (h : Q (.ref s.heap.objs.size) { s with heap := s.heap.push { cls := .type "tuple", data := .seq items.toList.reverse.toArray } }) (hsz : items.size <= sizeLine) : wpAny (model prog w) A (getItem (.ref t) (.ref sl)) Q E s := by
  have htake : sizeOk (.seq items.toList.reverse.toArray) := by
    show items.toList.reverse.toArray.size <= sizeLine
    rw [List.size_toArray, List.length_reverse, Array.length_toList]; exact hsz
  obtain ⟨os, hos, hcs, hds⟩ := id hs
  have hTs : s.TypeIs (.ref sl) "slice" := ⟨os, hos, hcs⟩
  unfold getItem
  try with_reducible refine wpAny_holding ?_
  first | refine wpAny_bind (wpAny_pure ?_) | skip
  refine wpAny_bind (wpAny_sequenceKey ht.typeIs (by decide) ?_)
  refine wpAny_bind (wpAny_callSpecial?_slot (name := Str.ofString "__getitem__") ht.typeIs PyProof.Rows.slot_tuple_getitem
    (wpAny_call_entry PyProof.Rows.slot_tuple_getitem ht.typeIs entry_tuple_getitem ?_ (args_tuple_getitem _ _)))
  show wpAny _ _ (Builtin.Tuple.tupleItemsOf (.ref t) >>= _) _ _ s
  refine wpAny_bind (tupleItemsOf_ ht ?_)
  refine wpAny_bind (wpAny_typeOf hTs ?_)
  rw [if_pos (by decide)]
  refine wpAny_bind (sliceApplied_back hs pk ?_)
  have hno : ¬ ((((items.size : Int) - 1) == 0 && (-1 : Int) == 1 && items.size == items.size) = true) := by
    intro q
    rw [Bool.and_eq_true, Bool.and_eq_true] at q
    exact absurd q.1.2 (by decide)
  show wpAny _ _ (if (((items.size : Int) - 1) == 0 && (-1 : Int) == 1 && items.size == items.size) = true then _ else _) _ _ s
  rw [if_neg hno, pick_back]
  first
    | exact wpAny_bind (m := Builtin.Tuple.tupleExact _) (wpAny_newObj_type (wpAny_pure ⟨_, rfl, wpAny_pure h⟩) htake)
    | exact wpAny_bind (m := Builtin.Tuple.tupleExact _) (wpAny_newObj_type (wpAny_bind (wpAny_pure (wpAny_pure ⟨_, rfl, wpAny_pure h⟩))) htake)
    | exact wpAny_bind (wpAny_bind (m := Builtin.Tuple.tupleExact _) (wpAny_newObj_type (wpAny_pure (wpAny_pure ⟨_, rfl, wpAny_pure h⟩)) htake))
    | exact wpAny_bind (wpAny_bind (m := Builtin.Tuple.tupleExact _) (wpAny_newObj_type (wpAny_pure ⟨_, rfl, wpAny_pure h⟩) htake))
end
end HT
namespace L2
open PySem PySem.Spec PyProof.Rows
section
variable {X : Cx} {e st : Expr} {te : TE} {ts : TO} {pos p2 : Pos}
noncomputable def tRevT (K : PySem.W.Frag) (te : TE) (ts : TO) : TE := fun σ H Q => te σ H fun x H1 => ts σ H1 fun o H2 => o = some (-1) /\ ∃ a xs, x = .ref a /\ SqT K H2 a xs /\ ∀ p, H2 p = none -> Q (.ref p) (upd H2 p (.tup xs.reverse))
theorem pe_revT (K : PySem.W.Frag) (hK : X.K = K) (he : PE X e te) (hs : PO X (some st) ts) : PE X (.Subscript e (.Slice none none (some st) p2) pos) (tRevT K te ts) := by
  subst hK
  intro pins s σ H Q I h
  refine Subscript_ (thn (he pins s σ H _ I h) fun v s1 ⟨x, H1, I1, r1, q1⟩ => ?_)
  refine wpAny_Slice ?_
  rw [evalPart_none]
  refine wpAny_pure (wpAny_pure (thn (hs pins s1 σ H1 _ I1 q1) fun vk s3 ⟨o, H3, I3, pk, eo, a, xs, ex, hx, q3⟩ => ?_))
  subst eo ex
  cases r1
  have I4 : Inv X pins σ H3 { s3 with heap := s3.heap.push { cls := .type "slice", data := .fields #[.none, .none, vk] } } := I3.kept (t' := s3.toks) fun b ob q => Heap.get?_push_of_some _ q
  obtain ⟨its, r, ht, hz⟩ := I4.tuple hx
  have hlen : its.toArray.size = xs.length := by rw [List.size_toArray]; exact r.length.symm
  show wpAny (model X.prog X.w) X.A (subscriptTail e (.Slice none none (some st) p2) (.ref a) (.ref s3.heap.objs.size)) (EP X pins σ Q) X.xe { s3 with heap := s3.heap.push { cls := .type "slice", data := .fields #[.none, .none, vk] } }
  refine tail_any (ops := [.ref a, .ref s3.heap.objs.size]) ht.typeIs PyProof.Rows.slot_tuple_getitem.lookup (HT.getItem_tuple_back ht (Heap.IsSliceOf.new ..) pk ?_ (by rw [hlen]; exact hz)) (by with_unfolding_all rfl)
  refine ⟨.ref _, _, I4.laid (t' := s3.toks) (o := .tup xs.reverse) (fun b ob q => Heap.get?_push_of_some _ q) (Nat.le_refl _) ?_, rfl, q3 _ (I4.hok.fresh (Nat.le_refl _))⟩
  exact ⟨by rw [List.length_reverse]; exact hz, _, r.reverse, IsTup.new _ _⟩
end
end L2
namespace L2
open PySem PySem.Spec PyProof.Rows
section
variable {κ : Type} [DecidableEq κ]
noncomputable def valV (kvs : List (κ × V)) (k : κ) : Option V := (kvs.find? fun kv => decide (kv.1 = k)).map (·.2)
noncomputable def putK (kvs : List (κ × V)) (k : κ) (v : V) : List (κ × V) :=
  if (kvs.any fun kv => decide (kv.1 = k)) = true then kvs.map (fun kv => if kv.1 = k then (kv.1, v) else kv) else kvs ++ [(k, v)]
noncomputable def dropK (kvs : List (κ × V)) (k : κ) : List (κ × V) := kvs.filter fun kv => decide (kv.1 ≠ k)
end
noncomputable abbrev KT (H : Hp) : List (List Key × V) -> List (List Key × Addr × Value) -> Prop := Paired fun p q => p.1 = q.1 /\ H q.2.1 = some (.tup (p.1.map kV)) /\ RelV p.2 q.2.2
section
variable {P : Program} {w : World} {H : Hp} {h : Heap} {a : Addr}
end
noncomputable def DGet (H : Hp) (a : Addr) (y : V) (r : Option V) : Prop :=
  (∃ kvs k, Rd H a (.dK kvs) /\ y = kV k /\ r = valV kvs k) \/ ∃ kvs k b, Rd H a (.dT kvs) /\ y = .ref b /\ H b = some (.tup (k.map kV)) /\ r = valV kvs k
noncomputable def DPut (H : Hp) (a : Addr) (y v : V) (H' : Hp) : Prop :=
  (∃ kvs k, H a = some (.dK kvs) /\ y = kV k /\ kvs.length < sizeLine /\ H' = upd H a (.dK (putK kvs k v))) \/
  ∃ kvs k b, H a = some (.dT kvs) /\ y = .ref b /\ H b = some (.tup (k.map kV)) /\ kvs.length < sizeLine /\ H' = upd H a (.dT (putK kvs k v))
section
variable {X : Cx} {pins : List (Addr × Obj)} {σ : St} {H : Hp} {s : Shared} {a : Addr} {y v : V} {u r : Value} {o : Option V} {A : Around} {E : Value -> Shared -> Prop}
end
section
variable {X : Cx} {pins : List (Addr × Obj)} {σ : St} {H : Hp} {s : Shared} {a : Addr} {kvs : List (Key × V)} {k : Key} {u : Value} {A : Around} {E : Value -> Shared -> Prop}
end
section
variable {X : Cx} {o i e value : Expr} {pos pos' tpos : Pos} {td ty tv : TE}
end
section
variable {X : Cx} {pos : Pos}
end
structure M1 (X : Cx) (o : Expr) (m : Str) (apos : Pos) (e : Expr) (cpos : Pos) : Prop where
  base : attributeBase o m X.env (eval o X.env) = eval o X.env
  few : ((backTo cpos (starEach [e] X.env)).all (fun x => !x.1) && (backToKw cpos (keywordEach [] X.env)).all (fun x => x.1.isSome)
    && decide (([e] : List Expr).length + ([] : List Keyword).length + (if ([] : List Keyword).isEmpty then 0 else 1) < 30)) = true
  line : (apos.endLine == cpos.line) = true
  trees : backTo cpos (starEach [e] X.env) = [(false, eval e X.env)]
structure M2 (X : Cx) (o : Expr) (m : Str) (apos : Pos) (e f : Expr) (cpos : Pos) : Prop where
  base : attributeBase o m X.env (eval o X.env) = eval o X.env
  few : ((backTo cpos (starEach [e, f] X.env)).all (fun x => !x.1) && (backToKw cpos (keywordEach [] X.env)).all (fun x => x.1.isSome)
    && decide (([e, f] : List Expr).length + ([] : List Keyword).length + (if ([] : List Keyword).isEmpty then 0 else 1) < 30)) = true
  line : (apos.endLine == cpos.line) = true
  trees : backTo cpos (starEach [e, f] X.env) = [(false, eval e X.env), (false, eval f X.env)]
section
variable {X : Cx} {pins : List (Addr × Obj)} {σ : St} {H : Hp} {s : Shared} {a : Addr} {y d : V} {u r : Value} {o : Option V} {A : Around} {E : Value -> Shared -> Prop}
end
section
variable {X : Cx} {o e f : Expr} {apos cpos : Pos} {td ty tx : TE}
end
section
variable {X : Cx} {pins : List (Addr × Obj)} {σ : St} {H : Hp} {s : Shared} {a : Addr} {kvs : List (Key × V)} {A : Around} {E : Value -> Shared -> Prop}
end
section
variable {X : Cx} {pins : List (Addr × Obj)} {σ : St} {H : Hp} {s : Shared} {a : Addr} {y : V} {u : Value} {A : Around} {E : Value -> Shared -> Prop}
end
end L2
namespace L2
open PySem PySem.Spec PyProof.Rows
section
variable {prog : Program} {w : World} {A : Around} {E : Value -> Shared -> Prop} {s : Shared}
end
section
variable {X : Cx}
end
end L2
set_option maxHeartbeats 1000000
namespace L2
open PySem PySem.Spec PyProof.Rows
section
variable {prog : Program} {w : World} {KK : Type} [DecidableEq KK] {knd : KeyKind prog w KK}
end
section
variable {X : Cx}
end
end L2
set_option maxHeartbeats 1000000
namespace L2.F2
open PySem PySem.Spec PyProof.Rows
end L2.F2
namespace L2
open PySem PySem.Spec PyProof.Rows
section
variable {prog : Program} {w : World} {A : Around} {E : Value -> Shared -> Prop} {s : Shared}
end
section
variable {X : Cx}
end
end L2
set_option maxHeartbeats 1000000
namespace L2
open PySem PySem.Spec PyProof.Rows
section
variable {prog : Program} {w : World} {A : Around} {E : Value -> Shared -> Prop} {s : Shared}
end
section
variable {X : Cx}
end
end L2
set_option maxHeartbeats 2000000
namespace L2
open PySem PySem.Spec PyProof.Rows
section
variable {prog : Program} {w : World} {A : Around} {E : Value -> Shared -> Prop} {s : Shared}
end
section
variable {X : Cx}
end
noncomputable def dd {α : Type} [DecidableEq α] : List α -> List α -> List α
  | σ, [] => σ
  | σ, x :: l => dd (if x ∈ σ then σ else σ ++ [x]) l
section
variable {prog : Program} {w : World} {A : Around} {E : Value -> Shared -> Prop} {s : Shared}
noncomputable abbrev SetT (prog : Program) (w : World) (h : Heap) (a : Addr) (l : List Str) : Prop := h.SetOf (strKind prog w) a (fun k => decide (k ∈ dd [] l)) (dd [] l).length
end
section
variable {prog : Program} {w : World} {A : Around} {E : Value -> Shared -> Prop} {s : Shared}
end
section
variable {X : Cx}
end
end L2
namespace L2
open PySem PySem.Spec PyProof.Rows
section
variable {prog : Program} {w : World} {A : Around} {E : Value -> Shared -> Prop} {s : Shared}
noncomputable def TuxAt (h : Heap) (k : Nat) (v : Value) (ns : List Int) : Prop := ∃ x ox us m is z t, v = .ref x /\ h.get? x = some ox /\ ox.cls = .type "tuple" /\ ox.data = .seq us m /\ us.toList = is ++ [.str z t] /\ IntsAre is ns /\ ns.length = k + 1
noncomputable def TuxsAt (h : Heap) (k : Nat) : List Value -> List (List Int) -> Prop
  | [], [] => True
  | v :: vs, n :: ns => TuxAt h k v n /\ TuxsAt h k vs ns
  | _, _ => False
end
section
variable {X : Cx}
noncomputable def TxsV (K : PySem.W.Frag) (H : Hp) (k : Nat) : List V -> List (List Int) -> Prop
  | [], [] => True
  | v :: vs, n :: ns => (∃ t z, v = .ref t /\ SqT K H t (n.map V.int ++ [.str z]) /\ n.length = k + 1) /\ TxsV K H k vs ns
  | _, _ => False
end
section
variable {X : Cx}
end
end L2
namespace L2
open PySem PySem.Spec PyProof.Rows
section
variable {X : Cx} {st : Stmt} {rest : List Stmt} {t u : TS}
end
end L2
namespace L2
open PySem PySem.Spec PyProof.Rows
section
variable {X : Cx}
end
end L2
namespace L2
open PySem PySem.Spec PyProof.Rows
section
variable {X : Cx}
end
section
variable {prog : Program} {w : World} {A : Around} {E : Value -> Shared -> Prop} {s : Shared}
structure ZA (z TI TO i1 i2 : Addr) (f1 f2 : List Addr) : Prop where
  m1 : i1 ∈ f1
  m2 : i2 ∈ f2
  z1 : z ∉ f1
  z2 : z ∉ f2
  o1 : TO ∉ f1
  o2 : TO ∉ f2
  c1 : i1 ∉ f2
  c2 : i2 ∉ f1
  tz : TI ≠ z
  tt : TI ≠ TO
  t1 : TI ≠ i1
  t2 : TI ≠ i2
  oz : TO ≠ z
section
variable {z TI TO i1 i2 : Addr} {f1 f2 : List Addr} {n1 n2 i : Nat} {P1 P2 : Nat -> Value -> Prop} {S1 S2 : Nat -> Heap -> Prop} {a b : Value}
end
structure ZS (P : Program) (w : World) (K : PySem.W.Frag) (a it : Addr) (Sq : Hp -> List V -> Prop) (IT : Nat -> Heap -> Prop) : Prop where
  obj : ∀ i h, IT i h -> ∃ o, h.get? it = some o /\ ∀ v, o.data ≠ .cell v
  keep : ∀ i h h', IT i h -> (∀ o, h.get? it = some o -> h'.get? it = some o) -> IT i h'
  inj : ∀ (X : Cx), X.K = K -> ∀ (pins : List (Addr × Obj)) (s : Shared) (σ : St) (H : Hp), Inv X pins σ H s -> ∀ xs ys, Sq H xs -> Sq H ys -> xs = ys
  draws : ∀ (X : Cx), X.prog = P -> X.w = w -> X.K = K -> X.calm = true -> ∀ (pins : List (Addr × Obj)) (s : Shared) (σ : St) (H : Hp), Inv X pins σ H s -> ∀ xs, Sq H xs -> a ≠ it ->
    ∃ (its : List Value) (SS : Nat -> Heap -> Prop), Vals xs its /\ Draws P w X.A.in1 it [it, a] its.length (fun i v => its[i]? = some v) SS /\ (∀ i, IT i s.heap -> SS i s.heap) /\ ∀ i h, SS i h -> IT i h
end
section
variable {X : Cx} {elts : List Expr} {k : Nat} {pos' : Pos} {a b : Expr} {ta : TA} {p pos : Pos}
end
end L2
namespace L2
open PySem PySem.Spec PyProof.Rows
section
variable {X : Cx}
end
end L2
namespace L2
open PySem PySem.Spec PyProof.Rows PySem.MeetsSeq PySem.SeqAt
section
variable {X : Cx}
end
end L2
namespace L2
open PySem PySem.Spec PyProof.Rows
end L2
set_option maxHeartbeats 4000000
namespace XL
open PySem PySem.Spec PySem.Calls PyProof.Rows PySem.W Builtin Builtin.ObjectAttr
noncomputable abbrev VB : List Value := [.type "ValueError", .type "Exception", .type "BaseException", .type "object"]
noncomputable def xIn (K : Frag) (C : Addr) : Bool := match K.lookup C with
  | some ⟨.type "type", _, .cls cd, sl⟩ => (match cd.mro, sl.toList with
    | .ref C' :: bm, [_, _, _, _, some (.builtin n), _] => C' == C && n == "ValueError.__new__" && !cd.hasDel && cd.hasDict && tailIn K VB bm && nsOkIn K cd.ns
    | _, _ => false)
  | _ => false
structure XObj (K : Frag) (h : Heap) (C : Addr) : Prop where
  obj : ∃ bm N nm q bs sn sub ab col dd k0 k1 k2 k3 k5 mN, h.get? C = some (excClassObj nm q C N bs bm true sn sub ab col dd k0 k1 k2 k3 k5 "ValueError.__new__") /\ h.Ns N mN /\ OwnTail h VB bm /\ clsIn K C = some { name := nm, bases := bs, mro := .ref C :: bm, ns := N, qualname := q, hasDict := true, slotNames := sn, subclasses := sub, abstract := ab, collection := col, hasDel := false }
theorem xobj_of {K : Frag} {h : Heap} {C : Addr} (X : K.In h) (e : xIn K C = true) : XObj K h C := by
  unfold xIn at e
  split at e
  · rename_i dd cd sl ho
    split at e
    · rename_i C' bm k0 k1 k2 k3 n k5 hm hs
      simp only [Bool.and_eq_true, beq_iff_eq, Bool.not_eq_true'] at e
      obtain ⟨⟨⟨⟨⟨rfl, rfl⟩, hdel⟩, hdct⟩, ht⟩, hok⟩ := e
      obtain ⟨nm, bs, mro, ns, qn, hd, sn, sub, ab, col, del⟩ := cd
      dsimp only at hm hdel hok hdct
      subst hm hdel hdct
      have hsl : sl = #[k0, k1, k2, k3, some (.builtin "ValueError.__new__"), k5] := by
        obtain ⟨l⟩ := sl
        simp only at hs
        rw [hs]
      subst hsl
      exact ⟨bm, ns, nm, qn, bs, sn, sub, ab, col, dd, k0, k1, k2, k3, k5, _, X _ _ ho, .of_isNs (isNs_of_in X hok), tail_of_in X ht, by unfold clsIn; rw [ho]⟩
    · cases e
  · cases e
theorem lk_at {α : Type} {M : Model} {A : Around} {E : Value -> Shared -> Prop} {h : Heap} {g : Array GenState} {d : Drawn} {t : Nat} {os : OsState} {T : Sem α} {r : α} {Q : α -> Shared -> Prop} (x : Looks M h T r) (q : Q r ⟨h, g, d, t, os⟩) : wpAny M A T Q E ⟨h, g, d, t, os⟩ := x A Q E _ (fun _ _ e => e) q
noncomputable abbrev excNew (C t : Addr) : Obj := { cls := .ref C, data := .fields #[.ref t, .none, .none, .none, .bool false, .none] }
section
variable {prog : Program} {w : World} {A : Around} {E : Value -> Shared -> Prop} {h : Heap} {g : Array GenState} {d : Drawn} {t : Nat} {os : OsState} {K : Frag} {C : Addr}
theorem x_type_call {rest : List Value} {init : Value} {Q : Fin -> Shared -> Prop} (X : XObj K h C) (hi : Looks (model prog w) h (typeLookup (.ref C) "__init__") (some init)) (hb : ∀ self, Looks (model prog w) h (bindSpecial init self) (init, [self])) (hrest : rest.length <= sizeLine)
    (hq : wpAny (model prog w) A (call init (.ref (h.objs.size + 1) :: rest)) (fun v s' => v = .none /\ Q (.done (.ret (.ref (h.objs.size + 1)))) s') E ⟨(h.push { cls := .type "tuple", data := .seq rest.toArray }).push (excNew C h.objs.size), g, d, t, os⟩) :
    wpAny (model prog w) A (Builtin.«type.__call__» ⟨.ref C :: rest, []⟩) Q E ⟨h, g, d, t, os⟩ := by
  obtain ⟨bm, N, nm, q, bs, sn, sub, ab, col, dd, k0, k1, k2, k3, k5, mN, hC, hn, T, _⟩ := X.obj
  have F := PySem.F.excBase_ValueError
  repeat (first | with_reducible refine wpAny_loadPart_at hC ?_ | with_reducible refine wpAny_madeBy_exc hC ?_ | wp_step)
  refine codeAny_call_builtin_code (Code.quiet_builtin _ F.quiet) (wpAny_check_new_subT F T hC ?_)
  refine codeAny_exc_new_subT F T hC ?_ hrest
  show wpAny _ _ _ _ _ _
  have kp : ∀ b o, h.get? b = some o -> ((h.push { cls := .type "tuple", data := .seq rest.toArray }).push (excNew C h.objs.size)).get? b = some o := fun b o e => Heap.get?_push_of_some _ (Heap.get?_push_of_some _ e)
  have hC₁ := kp _ _ hC
  have hget : ((h.push { cls := .type "tuple", data := .seq rest.toArray }).push (excNew C h.objs.size)).get? (h.objs.size + 1) = some (excNew C h.objs.size) := by heap_get
  have hcC : (Value.ref C :: bm).contains (.ref C) = true := by simp
  have i1 := hi.keeps kp
  have b1 := (hb (.ref (h.objs.size + 1))).keeps kp
  unfold isInstance
  repeat (first | with_reducible refine wpAny_loadPart_at hget ?_ | (with_reducible refine wpAny_isSubtype_exc hC₁ ?_; rw [hcC]) | wp_step)
  show wpAny _ _ (typeLookup (.ref C) _) _ _ _
  refine i1.here ?_
  refine wpAny_holding (wpAny_bind (b1.here ?_))
  refine wpAny_bind (wpAny_mono hq (fun v s' z => ?_) fun _ _ e => e)
  obtain ⟨rfl, z⟩ := z
  exact wpAny_pure (wpAny_pure z)
theorem x_call {rest : List Value} {init : Value} {Q : Value -> Shared -> Prop} (X : XObj K h C) (hi : Looks (model prog w) h (typeLookup (.ref C) "__init__") (some init)) (hb : ∀ self, Looks (model prog w) h (bindSpecial init self) (init, [self])) (hrest : rest.length <= sizeLine)
    (hq : wpAny (model prog w) (A.under (.builtin "type.__call__" ⟨.ref C :: rest, []⟩)) (call init (.ref (h.objs.size + 1) :: rest)) (fun v s' => v = .none /\ Q (.ref (h.objs.size + 1)) s') E ⟨(h.push { cls := .type "tuple", data := .seq rest.toArray }).push (excNew C h.objs.size), g, d, t, os⟩) :
    wpAny (model prog w) A (call (.ref C) rest) Q E ⟨h, g, d, t, os⟩ := by
  obtain ⟨bm, N, nm, q, bs, sn, sub, ab, col, dd, k0, k1, k2, k3, k5, mN, hC, hn, T, _⟩ := X.obj
  have f1 := tc_lookup
  have f2 := tc_bind (.ref C)
  have hT : (⟨h, g, d, t, os⟩ : Shared).TypeIs (.ref C) "type" := ⟨_, hC, rfl⟩
  refine wpAny_call (codeAny_of_tree ?_)
  show wpAny _ _ (callAny (.ref C) _) _ _ _
  repeat (any_goals (first | assumption | with_reducible refine wpAny_loadPart_at hC ?_ | wp_step))
  refine ⟨rfl, ?_⟩
  exact codeAny_call_builtin_at (Code.quiet_builtin _ (by decide +kernel)) entry_typeCall (wpAny_check_type_call_sub hC (x_type_call X hi hb hrest hq))
theorem x_init {rest : List Value} {e : Addr} {oe : Obj} {vs : Array Value} {Q : Value -> Shared -> Prop} (X : XObj K h C) (he : h.get? e = some oe) (hc : oe.cls = .ref C) (hd : oe.data = .fields vs) {t0 : Addr} (h0 : vs[0]? = some (.ref t0)) (hrest : rest.length <= sizeLine)
    (hq : Q .none ⟨(h.push { cls := .type "tuple", data := .seq rest.toArray }).update e (Obj.mapFields (·.setIfInBounds 0 (.ref h.objs.size))), g, d, t, os⟩) :
    wpAny (model prog w) A (call (.builtin "ValueError.__init__") (.ref e :: rest)) Q E ⟨h, g, d, t, os⟩ := by
  obtain ⟨bm, N, nm, q, bs, sn, sub, ab, col, dd, k0, k1, k2, k3, k5, mN, hC, hn, T, _⟩ := X.obj
  have F := PySem.F.excBase_ValueError
  refine wpAny_call (codeAny_call_builtin F.init.plain F.initEntry (wpAny_check_init_subT F T hC he hc ?_))
  wp_walk
  rw [hd]
  refine wpAny_pure ?_
  rw [h0]
  refine wpAny_pure (wpAny_bind ?_)
  have hsz : 0 < vs.size := (Array.getElem?_eq_some_iff.mp h0).1
  refine wpAny_setField (Heap.get?_push_of_some _ he) hd hsz ?_
  wp_walk
  exact hq
theorem refuse_tail {bm : List Value} (T : OwnTail h VB bm) (self : Value) : refuseLoop self "__setattr__" bm = pure () := by
  induction T with
  | base => exact PySem.F.store_ValueError.passes self
  | own _ _ _ _ ih => rw [refuseLoop_ref]; exact ih
variable {x : Addr} {mA : Str -> Option Value} {name : Str} {v : Value}
theorem x_dict {o : Obj} {Q : Option Addr -> Shared -> Prop} (X : XObj K h C) (hx : h.get? x = some o) (hc : o.cls = .ref C) (hnc : ∀ c, o.data ≠ .cls c)
    (h1 : ∀ dx, o.dict = some dx -> Q (some dx) ⟨h, g, d, t, os⟩) (h2 : o.dict = none -> Q (some h.objs.size) ⟨(h.push emptyDict).update x fun o => { o with dict := some h.objs.size }, g, d, t, os⟩) :
    wpAny (model prog w) A (instanceDict x true) Q E ⟨h, g, d, t, os⟩ := by
  obtain ⟨bm, N, nm, q, bs, sn, sub, ab, col, dd, k0, k1, k2, k3, k5, mN, hC, _⟩ := X.obj
  unfold instanceDict
  repeat (first | (with_reducible refine wpAny_loadPart_at hx ?_; rw [hc]) | with_reducible refine wpAny_loadPart_at hC ?_ | wp_step)
  cases e : o.dict with
  | some dx => exact wpAny_pure (h1 dx e)
  | none =>
    have lay : wpAny (model prog w) A (do
        let d <- alloc { cls := .type "dict", data := .dict #[] }
        update x fun o => { o with dict := some d }
        dictMade (.ref C) x d) Q E ⟨h, g, d, t, os⟩ := wpAny_bind (wpAny_alloc (wpAny_bind (wpAny_update (Heap.get?_push_of_some _ hx) (wpAny_pure (h2 e)))))
    obtain ⟨oc, od, odt, osl⟩ := o
    cases odt <;> first | exact lay | exact absurd rfl (hnc _)
theorem x_put {dx : Addr} {ns : List Str} {tk : Tok} {Q : Fin -> Shared -> Prop} (hn : h.Ns1 dx mA) (hw : Within mA ns) (hz : ns.length < sizeLine)
    (hq : ∀ h', h'.Ns1 dx (fun y => if y = name then some v else mA y) -> Heap.SameBut dx h h' -> Q (.done (.ret .none)) ⟨h', g, d, t + 1, os⟩) : wpAny (model prog w) A (storeInDict dx (.str name tk) name v) Q E ⟨h, g, d, t, os⟩ := by
  unfold storeInDict
  refine wpAny_bind (wpAny_pure (wpAny_bind (wpAny_nsSet1 hn fun h' n1 n2 => ?_)))
  obtain ⟨oD, esD, epD, a1, a2, a3⟩ := n1.count (Within.cons name v hw)
  refine wpAny_bind (wpAny_lookBehind a1 (by rw [a2]; exact pastItsLine_dict (Nat.le_trans a3 (by rw [List.length_cons]; omega))) ?_)
  exact wpAny_pure (hq h' n1 n2)
theorem x_store {tk : Tok} {Q : Fin -> Shared -> Prop} {ns : List Str} (KI : K.In h) (X : XObj K h C) (hn : findIn K (.ref C) name = some none) (I : h.Inst x C mA)
    (hq : ∀ h' tk', h'.Inst x C (fun y => if y = name then some v else mA y) ->
      (∀ b o, b ≠ x -> (∀ o₀ dx, h.get? x = some o₀ -> o₀.dict = some dx -> b ≠ dx) -> h.get? b = some o -> h'.get? b = some o) ->
      (∀ o₀, h.get? x = some o₀ -> ∃ o₁, h'.get? x = some o₁ /\ o₁.cls = o₀.cls /\ o₁.data = o₀.data /\ o₁.slots = o₀.slots /\ (∀ dx, o₀.dict = some dx -> o₁.dict = some dx) /\ (o₀.dict = none -> o₁.dict = some h.objs.size)) -> Q (.done (.ret .none)) ⟨h', g, d, tk', os⟩) (hw : Within mA ns) (hsz : ns.length < sizeLine) :
    wpAny (model prog w) A (Builtin.«object.__setattr__» ⟨[.ref x, .str name tk, v], []⟩) Q E ⟨h, g, d, t, os⟩ := by
  obtain ⟨bm, N, nm, q, bs, sn, sub, ab, col, dd, k0, k1, k2, k3, k5, mN, hC, _, T, _⟩ := X.obj
  obtain ⟨o, hx, hc, hnc, hd⟩ := I
  have t1 : Looks (model prog w) h (typeOf (.ref x)) (.ref C) := hc ▸ (Looks.ld hx).andThen .now
  have same : ∀ o₀, h.get? x = some o₀ -> o = o₀ := fun o₀ e => Option.some.inj (hx.symm.trans e)
  rw [osa_eq]
  refine wpAny_bind ?_
  rw [refuse_eq]
  refine wpAny_bind (lk_at t1 (wpAny_bind (wpAny_mroOf_exc hC ?_)))
  rw [refuseLoop_ref, refuse_tail T]
  refine wpAny_pure (wpAny_bind (lk_at t1 (wpAny_bind (lk_at (looks_findIn KI hn) (wpAny_bind (wpAny_pure ?_))))))
  show wpAny _ _ (storeInOwnDict (.ref x) (.ref C) (.str name tk) name v false) _ _ _
  unfold storeInOwnDict
  refine wpAny_bind (wpAny_pure (wpAny_bind (x_dict X hx hc hnc (fun dx e => ?_) (fun e => ?_))))
  · rcases hd with ⟨z, _⟩ | ⟨dx', e', ne, n1⟩
    · rw [z] at e; cases e
    · rw [e'] at e
      cases e
      refine x_put n1 hw hsz fun h' n2 sb => hq h' _ ⟨o, (sb.2 x ne.symm).trans hx, hc, hnc, .inr ⟨dx, e', ne, n2⟩⟩ (fun b ob _ away hb => (sb.2 b (away o dx hx e')).trans hb) fun o₀ e0 => ?_
      cases same o₀ e0
      exact ⟨o, (sb.2 x ne.symm).trans hx, rfl, rfl, rfl, fun _ y => y, fun y => by (rw [e'] at y; cases y)⟩
  · have empty : ∀ n, mA n = none := by
      rcases hd with ⟨_, z⟩ | ⟨dx', e', _⟩
      · exact z
      · rw [e'] at e; cases e
    have lt : x ≠ h.objs.size := Nat.ne_of_lt (Heap.lt_size hx)
    have live : Obj.isFreed { o with dict := some h.objs.size } = false := by
      have := (Heap.get?_some_iff.mp hx).2
      obtain ⟨oc, od, odt, osl⟩ := o
      cases odt <;> first | rfl | exact this
    have gx := Heap.get?_update_self (fun o : Obj => { o with dict := some h.objs.size }) (Heap.get?_push_of_some emptyDict hx) live
    have gd : ((h.push emptyDict).update x fun o => { o with dict := some h.objs.size }).get? h.objs.size = some emptyDict := (Heap.get?_update_ne _ _ _ _ (Ne.symm lt)).trans (Heap.get?_push_at rfl rfl)
    have nd : ((h.push emptyDict).update x fun o => { o with dict := some h.objs.size }).Ns1 h.objs.size fun _ => none := Heap.Ns1.of_empty ⟨_, #[], _, gd, rfl, fun y hy => absurd hy (by simp), fun _ => rfl⟩
    have old : ∀ b ob, b ≠ x -> h.get? b = some ob -> ((h.push emptyDict).update x fun o => { o with dict := some h.objs.size }).get? b = some ob := fun b ob hb e => (Heap.get?_update_ne _ _ _ _ hb).trans (Heap.get?_push_of_some _ e)
    refine x_put (ns := []) nd Within.nil (by decide) fun h' n2 sb => hq h' _ ⟨_, (sb.2 x lt).trans gx, hc, hnc, .inr ⟨h.objs.size, rfl, Ne.symm lt, ?_⟩⟩ (fun b ob hb _ eb => (sb.2 b (Nat.ne_of_lt (Heap.lt_size eb))).trans (old b ob hb eb)) fun o₀ e0 => ?_
    · obtain ⟨o', es, ep, y1, y2, y3, y4, y5⟩ := n2
      refine ⟨o', es, ep, y1, y2, y3, y4, fun y => (y5 y).trans ?_⟩
      show (if y = name then some v else none) = if y = name then some v else mA y
      by_cases z : y = name
      · rw [if_pos z, if_pos z]
      · rw [if_neg z, if_neg z, empty]
    · cases same o₀ e0
      exact ⟨_, (sb.2 x lt).trans gx, rfl, rfl, rfl, fun dx y => by (rw [e] at y; cases y), fun _ => rfl⟩
theorem x_set {Q : Unit -> Shared -> Prop} {ns : List Str} (KI : K.In h) (X : XObj K h C) (hs : findIn K (.ref C) "__setattr__" = some (some (.builtin "object.__setattr__"))) (hn : findIn K (.ref C) name = some none) (I : h.Inst x C mA)
    (hq : ∀ h' tk', h'.Inst x C (fun y => if y = name then some v else mA y) ->
      (∀ b o, b ≠ x -> (∀ o₀ dx, h.get? x = some o₀ -> o₀.dict = some dx -> b ≠ dx) -> h.get? b = some o -> h'.get? b = some o) ->
      (∀ o₀, h.get? x = some o₀ -> ∃ o₁, h'.get? x = some o₁ /\ o₁.cls = o₀.cls /\ o₁.data = o₀.data /\ o₁.slots = o₀.slots /\ (∀ dx, o₀.dict = some dx -> o₁.dict = some dx) /\ (o₀.dict = none -> o₁.dict = some h.objs.size)) -> Q () ⟨h', g, d, tk', os⟩) (hw : Within mA ns) (hsz : ns.length < sizeLine) :
    wpAny (model prog w) A (setAttr (.ref x) name v) Q E ⟨h, g, d, t, os⟩ := by
  obtain ⟨bm, N, nm, q, bs, sn, sub, ab, col, dd, k0, k1, k2, k3, k5, mN, hC, _, T, _⟩ := X.obj
  obtain ⟨o, hx, hc, _⟩ := id I
  have SF := PySem.F.store_ValueError
  have f3 := SF.slot.bind (.ref x)
  have L := looks_findIn (M := model prog w) KI hs
  have hcO : (Value.ref C :: bm).contains (.type "object") = true := by rw [List.contains_cons, T.hasType (X := "object") (b := true) (by decide +kernel), Bool.or_true]
  unfold setAttr callSpecial? specialOf
  repeat (any_goals (first | assumption | (with_reducible refine wpAny_loadPart_at hx ?_; rw [hc]) | with_reducible refine lk_at L ?_ | wp_step))
  refine codeAny_call_builtin SF.slot.plain SF.entry ?_
  refine @check_slot (model prog w) _ _ _ "object.__setattr__" "object" "__setattr__" (.ref x) _ [] _ SF.kind SF.split ?_ (SF.args _ _ _) (x_store KI X hn I (fun h' tk' I' hk hsame => ?_) hw hsz)
  · have t1 : Looks (model prog w) h (typeOf (.ref x)) (.ref C) := hc ▸ (Looks.ld hx).andThen .now
    refine t1.andThen ?_
    intro A Q E s k q
    obtain ⟨hh, gg, ddr, tt, oos⟩ := s
    refine wpAny_isSubtype_exc (k _ _ hC) ?_
    rw [hcO]; exact q
  repeat (any_goals (first | assumption | wp_step))
  exact hq h' tk' I' hk hsame
theorem x_get {expr : Bool} {Q : Value -> Shared -> Prop} (KI : K.In h) (X : XObj K h C) (hga : findIn K (.ref C) "__getattribute__" = some (some (.builtin "BaseException.__getattribute__"))) (hk : findIn K (.ref C) "__getattr__" = some none)
    (hn : findIn K (.ref C) name = some none) {ox od : Obj} (I : InstAt h x ox C (some od)) (hl : lookIn name od = some (some v)) (hv : handedIn v = true) (hq : Q v ⟨h, g, d, t + 1, os⟩) :
    wpAny (model prog w) A (getAttr (.ref x) name expr) Q E ⟨h, g, d, t, os⟩ := by
  obtain ⟨bm, N, nm, q, bs, sn, sub, ab, col, dd, k0, k1, k2, k3, k5, mN, hC, _, T, hcd⟩ := X.obj
  have hx := I.at_
  have hc := I.cls
  have FB := PySem.F.attrBase_ValueError
  have f3 := FB.ga.bind (.ref x)
  have hx0 : (expr && onTheHeap (Value.builtin "BaseException.__getattribute__")) = false := by cases expr <;> rfl
  have hx2 : (Value.builtin "BaseException.__getattribute__" == Value.builtin "object.__getattribute__") = false := by decide +kernel
  have hx1 : (onTheHeap (Value.ref C) && Value.builtin "BaseException.__getattribute__" == Value.builtin "object.__getattribute__") = false := by rw [hx2]; rfl
  have L1 := looks_findIn (M := model prog w) KI hga
  have L2 := looks_findIn (M := model prog w) KI hk
  have hcB : (Value.ref C :: bm).contains (.type "BaseException") = true := by rw [List.contains_cons, T.hasType (X := "BaseException") (b := true) (by decide +kernel), Bool.or_true]
  have hf : findObj K C (some od) name = some (.value v) := by
    unfold findObj
    rw [hcd, hn]
    show (Option.bind (PySem.W.ownOf _ (some od) name) _) = _
    unfold PySem.W.ownOf
    rw [if_pos rfl]
    show (Option.bind (lookIn name od) _) = _
    rw [hl]
    rfl
  have t1 : Looks (model prog w) h (typeOf (.ref x)) (.ref C) := hc ▸ (Looks.ld hx).andThen .now
  have LF := looks_find (M := model prog w) KI I hf
  unfold getAttr getAttrBy
  repeat (any_goals (first | assumption | (with_reducible refine wpAny_loadPart_at hx ?_; rw [hc]) | with_reducible refine lk_at L1 ?_ | with_reducible refine lk_at L2 ?_ | wp_step))
  refine codeAny_call_builtin FB.ga.plain PySem.F.entry_bexc_ga ?_
  refine @check_slot (model prog w) _ _ _ "BaseException.__getattribute__" "BaseException" "__getattribute__" (.ref x) _ [] _ (by decide +kernel) (by decide +kernel) ?_ (PySem.F.args_bexc_ga _ _) ?_
  · refine t1.andThen ?_
    intro A Q E s k q
    obtain ⟨hh, gg, ddr, tt, oos⟩ := s
    refine wpAny_isSubtype_exc (k _ _ hC) ?_
    rw [hcB]; exact q
  unfold Builtin.«object.__getattribute__»
  repeat (first | with_reducible refine lk_at t1 ?_ | with_reducible refine lk_at LF ?_ | wp_step)
  show wpAny _ _ (handedOut v) _ _ _
  rw [handedOut_of hv]
  exact wpAny_pure hq
end
end XL
set_option maxHeartbeats 4000000
namespace XL
open PySem PySem.Spec PySem.Calls PyProof.Rows PySem.W Builtin Builtin.ObjectAttr
structure XC (K : Frag) (C : Addr) : Prop where
  is : xIn K C = true
  ga : findIn K (.ref C) "__getattribute__" = some (some (.builtin "BaseException.__getattribute__"))
  gh : findIn K (.ref C) "__getattr__" = some none
  sa : findIn K (.ref C) "__setattr__" = some (some (.builtin "object.__setattr__"))
  cl : findIn K (.ref C) "__class__" = some (some (.builtin "object.__class__"))
  cg : specialIn K (.builtin "object.__class__") "__get__" = some (some (.builtin "getset_descriptor.__get__"))
  ct : takesIn K (.builtin "object.__class__") = some true
  ob : mroIn K C (.type "object") = some true
  kp : keepIn K (.ref C) = true
noncomputable def XAt (e C : Addr) (h : Heap) : Prop := ∃ ox, h.get? e = some ox /\ ox.cls = .ref C /\ notCls ox = true /\ (∀ d, ox.dict = some d -> ∃ od, h.get? d = some od)
theorem XAt.inst {e C : Addr} {h : Heap} (p : XAt e C h) : ∃ ox od, InstAt h e ox C od := by
  obtain ⟨ox, h1, h2, h3, h4⟩ := p
  cases hd : ox.dict with
  | none => exact ⟨ox, none, h1, h2, h3, by rw [hd]; trivial⟩
  | some d =>
    obtain ⟨od, h5⟩ := h4 d hd
    exact ⟨ox, some od, h1, h2, h3, by rw [hd]; exact h5⟩
section
variable {prog : Program} {w : World} {A : Around} {E : Value -> Shared -> Prop} {h : Heap} {g : Array GenState} {d : Drawn} {t : Nat} {os : OsState} {K : Frag} {C x : Addr}
theorem x_class {Q : Option Value -> Shared -> Prop} (KI : K.In h) (c : XC K C) (p : XAt x C h) (hq : Q (some (.ref C)) ⟨h, g, d, t + 1, os⟩) : wpAny (model prog w) A (getAttr? (.ref x) "__class__") Q E ⟨h, g, d, t, os⟩ := by
  obtain ⟨ox, od, I⟩ := p.inst
  obtain ⟨bm, N, nm, q, bs, sn, sub, ab, col, dd, k0, k1, k2, k3, k5, mN, hC, _, T, hcd⟩ := (xobj_of KI c.is).obj
  have hx := I.at_
  have hc := I.cls
  have FB := PySem.F.attrBase_ValueError
  have f3 := FB.ga.bind (.ref x)
  have hx0 : (false && onTheHeap (Value.builtin "BaseException.__getattribute__")) = false := rfl
  have hx2 : (Value.builtin "BaseException.__getattribute__" == Value.builtin "object.__getattribute__") = false := by decide +kernel
  have hx1 : (onTheHeap (Value.ref C) && Value.builtin "BaseException.__getattribute__" == Value.builtin "object.__getattribute__") = false := by rw [hx2]; rfl
  have L1 := looks_findIn (M := model prog w) KI c.ga
  have L2 := looks_findIn (M := model prog w) KI c.gh
  have hcB : (Value.ref C :: bm).contains (.type "BaseException") = true := by rw [List.contains_cons, T.hasType (X := "BaseException") (b := true) (by decide +kernel), Bool.or_true]
  have hf : findObj K C od "__class__" = some (.bind (.builtin "getset_descriptor.__get__") (.builtin "object.__class__")) := by
    unfold findObj
    rw [hcd, Option.bind_some, c.cl, Option.bind_some]
    simp [c.cg, c.ct]
  have t1 : Looks (model prog w) h (typeOf (.ref x)) (.ref C) := hc ▸ (Looks.ld hx).andThen .now
  have LF := looks_find (M := model prog w) KI I hf
  unfold getAttr? getAttrBy? getAttrBy
  repeat (any_goals (first | assumption | (with_reducible refine wpAny_loadPart_at hx ?_; rw [hc]) | with_reducible refine lk_at L1 ?_ | with_reducible refine lk_at L2 ?_ | wp_step))
  refine codeAny_call_builtin FB.ga.plain PySem.F.entry_bexc_ga ?_
  refine @check_slot (model prog w) _ _ _ "BaseException.__getattribute__" "BaseException" "__getattribute__" (.ref x) _ [] _ (by decide +kernel) (by decide +kernel) ?_ (PySem.F.args_bexc_ga _ _) ?_
  · refine t1.andThen ?_
    intro A Q E s k q
    obtain ⟨hh, gg, ddr, tt, oos⟩ := s
    refine wpAny_isSubtype_exc (k _ _ hC) ?_
    rw [hcB]; exact q
  unfold Builtin.«object.__getattribute__»
  repeat (first | with_reducible refine lk_at t1 ?_ | with_reducible refine lk_at LF ?_ | wp_step)
  refine class_get (s := ⟨h, g, d, t + 1, os⟩) KI I c.ob (wpAny_pure ?_)
  exact handed_on rfl (wpAny_pure hq)
theorem kitx_exc (c : XC K C) : KitX K (.ref x) (.ref C) (XAt x C) where
  ty := fun _ _ _ p => by
    obtain ⟨ox, od, I⟩ := p.inst
    exact I.type
  it := fun _ h X _ => by
    obtain ⟨bm, N, nm, q, bs, sn, sub, ab, col, dd, k0, k1, k2, k3, k5, mN, hC, _⟩ := (xobj_of X c.is).obj
    intro A' Q' E' s' k q
    unfold isType loadHead
    exact wpAny_bind (wpAny_loadPart (k _ _ hC) (wpAny_pure q))
  ne := fun h tp dd its n sl X htp => by
    obtain ⟨bm, N, nm, q, bs, sn, sub, ab, col, dd, k0, k1, k2, k3, k5, mN, hC, _⟩ := (xobj_of X c.is).obj
    refine Bool.eq_false_iff.mpr fun q => ?_
    have e : C = tp := Value.ref.inj (beq_iff_eq.mp q)
    subst e
    have z := congrArg (Option.map Obj.cls) (hC.symm.trans htp)
    have z2 : Value.type "type" = Value.type "tuple" := Option.some.inj z
    exact absurd (Value.type.inj z2) (by decide)
  ca := fun {_ _ _ _ _ s} X p k => by
    obtain ⟨h, g, d, t, os⟩ := s
    exact x_class X c p k
theorem x_matches {M : Addr} {Q : Bool -> Shared -> Prop} (KI : K.In h) (c : XC K C) (cm : XC K M) (hs : mroIn K C (.ref M) = some true) (p : XAt x C h) (hq : Q true ⟨h, g, d, t, os⟩) :
    wpAny (model prog w) A (excMatches (.ref x) (.ref M)) Q E ⟨h, g, d, t, os⟩ := by
  obtain ⟨bm, N, nm, q, bs, sn, sub, ab, col, dd, k0, k1, k2, k3, k5, mN, hC, _, T, hcd⟩ := (xobj_of KI c.is).obj
  obtain ⟨bm', N', nm', q', bs', sn', sub', ab', col', dd', k0', k1', k2', k3', k5', mN', hM, _, T', hcd'⟩ := (xobj_of KI cm.is).obj
  obtain ⟨ox, he, hcls, _⟩ := p
  have hcB : (Value.ref M :: bm').contains (.type "BaseException") = true := by rw [List.contains_cons, T'.hasType (X := "BaseException") (b := true) (by decide +kernel), Bool.or_true]
  have hcC : (Value.ref C :: bm).contains (.ref M) = true := by
    unfold mroIn at hs
    rw [hcd, Option.bind_some] at hs
    have : (if (Value.ref C :: bm).isEmpty = true then none else some ((Value.ref C :: bm).contains (.ref M))) = some true := hs
    rw [if_neg (by simp)] at this
    exact Option.some.inj this
  have f := tc_notTuple
  unfold excMatches
  repeat (first | (with_reducible refine wpAny_loadPart_at he ?_; rw [hcls]) | with_reducible refine wpAny_loadPart_at hM ?_ | (with_reducible refine wpAny_isSubtype_exc hM ?_; rw [hcB]) | (with_reducible refine wpAny_isSubtype_exc hC ?_; rw [hcC]) | wp_step)
  exact hq
theorem x_raise {env : Env} {s : Shared} {ex : Sem Value} {Q : Flow -> Shared -> Prop} (hh : A.handled = none)
    (hx : wpAny (model prog w) A ex (fun v s₁ => ∃ e C oe vs, v = .ref e /\ K.In s₁.heap /\ XC K C /\ s₁.heap.get? e = some oe /\ oe.cls = .ref C /\ oe.data = .fields vs /\ vs[1]? = some .none /\ E (.ref e) s₁) E s) :
    wpAny (model prog w) A (raiseStmt env (some ex) none) Q E s := by
  unfold raiseStmt
  refine wpAny_bind (wpAny_mono hx (fun v s₁ h₁ => ?_) fun _ _ y => y)
  obtain ⟨e, C, oe, vs, rfl, KI, c, he, hcls, hdt, hf1, hE⟩ := h₁
  obtain ⟨hp, g, d, tk, os⟩ := s₁
  obtain ⟨bm, N, nm, q, bs, sn, sub, ab, col, dd, k0, k1, k2, k3, k5, mN, hC, _, T, hcd⟩ := (xobj_of KI c.is).obj
  have hcB : (Value.ref C :: bm).contains (.type "BaseException") = true := by rw [List.contains_cons, T.hasType (X := "BaseException") (b := true) (by decide +kernel), Bool.or_true]
  obtain ⟨oc, od, odt, osl⟩ := oe
  cases (show oc = .ref C from hcls)
  cases (show odt = .fields vs from hdt)
  repeat (first | with_reducible refine wpAny_loadPart_at he ?_ | with_reducible refine wpAny_loadPart_at hC ?_ | with_reducible refine wpAny_field he rfl hf1 ?_ | (with_reducible refine wpAny_isSubtype_exc hC ?_; rw [hcB]) | wp_step)
  exact wpAny_raiseNew_none hh hE
end
end XL
set_option maxHeartbeats 4000000
namespace XL
open PySem PySem.Spec PySem.Calls PyProof.Rows PySem.W
noncomputable def Ex0 (h : Heap) (e C : Addr) (dO : Option Addr) : Prop := ∃ oe vs, h.get? e = some oe /\ oe.cls = .ref C /\ oe.dict = dO /\ oe.data = .fields vs /\ vs[1]? = some .none
noncomputable def Tb (h : Heap) (e C : Addr) (dO : Option Addr) (T : Addr) (fl : Value) : Prop :=
  ∃ oe vs oT ts, h.get? e = some oe /\ oe.cls = .ref C /\ oe.dict = dO /\ oe.data = .fields vs /\ vs[1]? = some (.ref T) /\ T ≠ e /\ h.get? T = some oT /\ oT.data = .fields ts /\ ts[3]? = some fl
structure Kept (S ex : List Addr) (h h' : Heap) : Prop where
  keep : ∀ b o, b ∉ ex -> b ∉ S -> h.get? b = some o -> h'.get? b = some o
  slot : ∀ b o, b ∉ ex -> b ∈ S -> h.get? b = some o -> ∃ sl, h'.get? b = some { o with slots := sl }
theorem Kept.trans {S ex ey : List Addr} {h h1 h2 : Heap} (a : Kept S ex h h1) (b : Kept S ey h1 h2) : Kept S (ex ++ ey) h h2 := by
  refine ⟨fun c o hx hs e => ?_, fun c o hx hs e => ?_⟩
  · rw [List.mem_append, not_or] at hx
    exact b.keep c o hx.2 hs (a.keep c o hx.1 hs e)
  · rw [List.mem_append, not_or] at hx
    obtain ⟨sl, e1⟩ := a.slot c o hx.1 hs e
    obtain ⟨sl2, e2⟩ := b.slot c _ hx.2 hs e1
    exact ⟨sl2, e2⟩
theorem Kept.frames {S ex : List Addr} {h h' base : Heap} (a : Kept S ex h h') : ∀ {l : List Env}, (∀ b, b ∈ l.filterMap (·.frame) -> b ∈ S /\ b ∉ ex) -> h.FunFrames base l -> h'.FunFrames base l
  | [], _, _ => trivial
  | env :: r, hS, ⟨hk, ⟨L, o, hf, hn, ho, hd⟩, hr⟩ => by
    have hL := hS L (by rw [List.filterMap_cons, hf]; exact List.mem_cons_self)
    obtain ⟨sl, e⟩ := a.slot L o hL.2 hL.1 ho
    exact ⟨hk, ⟨L, _, hf, hn, e, hd⟩, Kept.frames a (fun b hb => hS b (by rw [List.filterMap_cons, hf]; exact List.mem_cons_of_mem _ hb)) hr⟩
section
variable {M : Model} {A : Around} {E : Value -> Shared -> Prop} {s : Shared} {base : Heap} {env : Env} {outer : List Env} {L e C : Addr} {dO : Option Addr}
theorem frame_apart {S : List Env} {b : Addr} {o : Obj} {vs : Array Value} (hl : s.heap.FunFrames base S) (hb : s.heap.get? b = some o) (hd : o.data = .fields vs) : b ∉ S.filterMap (·.frame) := fun z => by
  obtain ⟨_, o', e', n⟩ := hl.mem z
  rw [hb] at e'
  cases e'
  exact n vs hd
theorem x_entry {oe : Obj} {vs : Array Value} {head : Value} {hadNext : Bool} {Q : Unit -> Shared -> Prop} (hfr : A.frames = some (env :: outer)) (hl : s.heap.FunFrames base (env :: outer)) (hf : env.frame = some L)
    (he : s.heap.get? e = some oe) (hc : oe.cls = .ref C) (hdi : oe.dict = dO) (hd : oe.data = .fields vs) (hz : 1 < vs.size)
    (hQ : ∀ h' T, s.heap.get? T = none -> Tb h' e C dO T (rawInt L) -> Kept ((env :: outer).filterMap (·.frame)) [e] s.heap h' -> Q () { s with heap := h' }) :
    wpAny M A (do setField (.ref e) 1 (<- EntryCells.newEntry head (<- frameOf env) .none (rawInt L) .none (<- entryPlaceOf L hadNext))) Q E s := by
  have ap := frame_apart hl he hd
  refine wpAny_bind (wpAny_frameOf_fun hfr hl hf fun h1 so => ?_)
  refine wpAny_bind (wpAny_entryPlaceOf fun pl hpl => ?_)
  unfold EntryCells.newEntry newFields
  refine wpAny_bind (wpAny_newObj_type ?_ (hpl.sizeOk5 _ _ _ _ _))
  have e1 : h1.get? e = some oe := (so.2.1 e ap).trans he
  generalize hts : ([head, .ref L, .none, rawInt L, .none] ++ (if pl.isEmpty then List.replicate 6 Value.none else pl)).toArray = ts
  have t3 : ts[3]? = some (rawInt L) := by rw [<- hts]; simp
  have ne : h1.objs.size ≠ e := Nat.ne_of_gt (Heap.lt_size e1)
  have d2 := Obj.data_mapFields hd (·.setIfInBounds 1 (Value.ref h1.objs.size))
  have e2 := Heap.get?_push_of_some { cls := .type "traceback", dict := none, data := .fields ts } e1
  refine wpAny_setField e2 hd hz ?_
  have e3 := Heap.get?_update_self (Obj.mapFields (·.setIfInBounds 1 (Value.ref h1.objs.size))) e2 (Obj.isFreed_of_fields d2)
  have other : ∀ b o, b ≠ e -> h1.get? b = some o -> ((h1.push { cls := .type "traceback", dict := none, data := .fields ts }).update e (Obj.mapFields (·.setIfInBounds 1 (Value.ref h1.objs.size)))).get? b = some o := fun b o hb e0 => by
    rw [Heap.get?_update_other _ _ (Ne.symm hb)]
    exact Heap.get?_push_of_some _ e0
  refine hQ _ h1.objs.size ?_ ⟨_, _, _, ts, e3, (Obj.cls_mapFields _ _).trans hc, ?_, d2, by simp [hz], ne, (Heap.get?_update_other _ _ (Ne.symm ne)).trans (Heap.get?_push_size h1 rfl), rfl, t3⟩ ⟨fun b o hb hS e0 => ?_, fun b o hb hS e0 => ?_⟩
  · exact Heap.get?_none_of_le (Nat.le_of_eq so.1.symm)
  · rw [<- hdi]
    obtain ⟨oc, od, odt, osl⟩ := oe
    cases (show odt = _ from hd)
    rfl
  · exact other b o (fun z => hb (by simp [z])) ((so.2.1 b hS).trans e0)
  · obtain ⟨sl, e4⟩ := so.2.2 b o e0
    exact ⟨sl, other b _ (fun z => hb (by simp [z])) e4⟩
theorem x_note0 {Q : Unit -> Shared -> Prop} (hfr : A.frames = some (env :: outer)) (hl : s.heap.FunFrames base (env :: outer)) (hf : env.frame = some L) (hx : Ex0 s.heap e C dO)
    (hQ : ∀ h' T, s.heap.get? T = none -> Tb h' e C dO T (rawInt L) -> Kept ((env :: outer).filterMap (·.frame)) [e] s.heap h' -> Q () { s with heap := h' }) : wpAny M A (noteFrame (.ref e) env) Q E s := by
  obtain ⟨oe, vs, he, hc, hdi, hd, h1⟩ := hx
  unfold noteFrame
  simp only [hf]
  refine wpAny_bind (wpAny_field he hd h1 ?_)
  rw [if_neg (by decide)]
  exact x_entry hfr hl hf he hc hdi hd (Array.getElem?_eq_some_iff.mp h1).1 hQ
theorem x_noteT {T0 : Addr} {Q : Unit -> Shared -> Prop} (hfr : A.frames = some (env :: outer)) (hl : s.heap.FunFrames base (env :: outer)) (hf : env.frame = some L) (hx : Tb s.heap e C dO T0 .none)
    (hQ : ∀ h' T, s.heap.get? T = none -> Tb h' e C dO T (rawInt L) -> Kept ((env :: outer).filterMap (·.frame)) [T0, e] s.heap h' -> Q () { s with heap := h' }) : wpAny M A (noteFrame (.ref e) env) Q E s := by
  obtain ⟨oe, vs, oT, ts, he, hc, hdi, hd, h1, ne, hT, hdT, h3⟩ := hx
  unfold noteFrame
  simp only [hf]
  refine wpAny_bind (wpAny_field he hd h1 ?_)
  rw [if_pos (by simp)]
  refine wpAny_bind (wpAny_field hT hdT h3 ?_)
  rw [if_neg (by simp [rawInt])]
  refine wpAny_bind (wpAny_setField hT hdT (Array.getElem?_eq_some_iff.mp h3).1 ?_)
  have apT := frame_apart hl hT hdT
  have k1 : Kept ((env :: outer).filterMap (·.frame)) [T0] s.heap (s.heap.update T0 (Obj.mapFields (·.setIfInBounds 3 Value.none))) :=
    ⟨fun b o hb _ e0 => (Heap.get?_update_other _ _ (fun z => hb (by simp [z]))).trans e0, fun b o hb _ e0 => ⟨o.slots, (Heap.get?_update_other _ _ (fun z => hb (by simp [z]))).trans e0⟩⟩
  refine x_entry (s := { s with heap := s.heap.update T0 (Obj.mapFields (·.setIfInBounds 3 Value.none)) }) hfr (k1.frames (fun b hb => ⟨hb, fun z => apT ((List.mem_singleton.mp z) ▸ hb)⟩) hl) hf
    (k1.keep e oe (fun z => ne (List.mem_singleton.mp z).symm) (frame_apart hl he hd) he) hc hdi hd (Array.getElem?_eq_some_iff.mp h1).1 fun h' T hn tb k2 => hQ h' T ?_ tb (k1.trans k2)
  cases hq : s.heap.get? T with
  | none => rfl
  | some o =>
    exfalso
    by_cases z : T = T0
    · rw [z, Heap.get?_update_self _ hT (Obj.isFreed_of_fields (Obj.data_mapFields hdT _))] at hn
      cases hn
    · rw [Heap.get?_update_other _ _ (Ne.symm z), hq] at hn
      cases hn
theorem x_land {S : List Addr} {T : Addr} {fl : Value} {Q : Unit -> Shared -> Prop} (hx : Tb s.heap e C dO T fl) (hQ : ∀ h', Tb h' e C dO T .none -> Kept S [T] s.heap h' -> Q () { s with heap := h' }) : wpAny M A (setFlight (.ref e) none) Q E s := by
  obtain ⟨oe, vs, oT, ts, he, hc, hdi, hd, h1, ne, hT, hdT, h3⟩ := hx
  unfold setFlight
  refine wpAny_bind (wpAny_field he hd h1 ?_)
  rw [if_pos (by simp)]
  have hsz : 3 < ts.size := (Array.getElem?_eq_some_iff.mp h3).1
  have d2 := Obj.data_mapFields hdT (·.setIfInBounds 3 ((none : Option Addr).elim Value.none fun f => rawInt f))
  refine wpAny_setField hT hdT hsz (hQ _ ⟨oe, vs, _, _, (Heap.get?_update_other _ _ ne).trans he, hc, hdi, hd, h1, ne, Heap.get?_update_self _ hT (Obj.isFreed_of_fields d2), d2, by simp [hsz]⟩
    ⟨fun b o hb _ e0 => (Heap.get?_update_other _ _ (fun z => hb (by simp [z]))).trans e0, fun b o hb _ e0 => ⟨o.slots, (Heap.get?_update_other _ _ (fun z => hb (by simp [z]))).trans e0⟩⟩)
end
end XL
set_option maxHeartbeats 4000000
namespace L2
open PySem PySem.Spec PyProof.Rows XL
noncomputable def excO (nw : Bool) (e C : Addr) (dO : Option Addr) : HO := .ext fun h => ∃ oe vs, h.get? e = some oe /\ oe.cls = .ref C /\ oe.dict = dO /\ oe.data = .fields vs /\ (nw = true -> vs[1]? = some .none /\ ∃ t0, vs[0]? = some (.ref t0))
noncomputable def xdO (d : Addr) (fs : List (Str × V)) : HO := .ext fun h => ∃ mA, h.Ns1 d mA /\ (∀ f, RelO (fs.lookup f) (mA f)) /\ PySem.Within mA (fs.map (·.1))
noncomputable def unt (H : Hp) (e : Addr) : Hp := fun b => if b = e then none else H b
theorem unt_same {H : Hp} {e : Addr} : unt H e e = none := by unfold unt; rw [if_pos rfl]
theorem unt_ne {H : Hp} {e b : Addr} (h : b ≠ e) : unt H e b = H b := by unfold unt; rw [if_neg h]
theorem unt_none {H : Hp} {e b : Addr} (h : H b = none) : unt H e b = none := by
  unfold unt
  split
  · rfl
  · exact h
section
variable {P : Program} {w : World} {H H' H1 H2 : Hp} {h h' h0 h1 h2 : Heap} {a e : Addr} {o : HO} {fs ex S : List Addr}
theorem ObjOk.some_ (x : ObjOk P w H h a o) : ∃ ob, h.get? a = some ob := by
  cases o with
  | lst xs => obtain ⟨_, _, _, _, q⟩ := x; exact ⟨_, q⟩
  | tup xs => obtain ⟨_, _, _, ob, q, _⟩ := x; exact ⟨ob, q⟩
  | dK kvs => obtain ⟨_, _, _, _, ob, _, _, q, _⟩ := x; exact ⟨ob, q⟩
  | dT kvs => obtain ⟨_, _, _, _, ob, _, _, q, _⟩ := x; exact ⟨ob, q⟩
  | set S n => obtain ⟨ob, _, _, _, q, _⟩ := x; exact ⟨ob, q⟩
  | ins C dx fs => obtain ⟨_, _, _, q, _⟩ := x; exact ⟨_, q⟩
  | own y => exact x
  | xd fs => obtain ⟨_, ⟨ob, _, _, q, _⟩, _⟩ := x; exact ⟨ob, q⟩
  | rng lo hi => obtain ⟨_, _, _, q⟩ := x; exact ⟨_, q⟩
  | frz ob u => obtain ⟨q, _⟩ := x; exact ⟨ob, q⟩
  | tbl ps => exact ⟨_, (show h.get? a = some _ from x)⟩
  | met f y => exact ⟨_, (show h.get? a = some _ from x)⟩
  | ext φ => obtain ⟨_, q, _⟩ := x; exact q
theorem HOk.none_of (ok : HOk P w H h) (q : h.get? a = none) : H a = none := by
  cases e : H a with
  | none => rfl
  | some u =>
    obtain ⟨ob, z⟩ := (ok a u e).some_
    rw [q] at z; cases z
theorem un_unt (u : Un fs ex H H1 h h1) (he : ∃ φ, H1 e = some (.ext φ)) : Un fs ex H (unt H1 e) h h1 := by
  obtain ⟨φ, he⟩ := he
  have ne : ∀ {b o}, H1 b = some o -> (∀ ψ, o ≠ .ext ψ) -> b ≠ e := fun {b o} q n z => by
    rw [z, he] at q
    exact n φ (Option.some.inj q).symm
  refine ⟨u.keep, u.slot, fun b o q n hx => unt_none (u.free b o q n hx), u.there, fun b xs q => ?_, fun b ob v q => ?_, fun b ps q => ?_⟩
  · have z := u.tups b xs q
    rw [unt_ne (ne z (fun _ z => by cases z))]; exact z
  · have z := u.frzs b ob v q
    rw [unt_ne (ne z (fun _ z => by cases z))]; exact z
  · obtain ⟨more, z⟩ := u.tbls b ps q
    exact ⟨more, by rw [unt_ne (ne z (fun _ z => by cases z))]; exact z⟩
theorem hok_unt (ok : HOk P w H h) (he : ∃ φ, H e = some (.ext φ)) : HOk P w (unt H e) h := fun b u q => by
  obtain ⟨φ, he⟩ := he
  have hb : b ≠ e := fun z => by rw [z, unt_same] at q; cases q
  rw [unt_ne hb] at q
  refine (ok b u q).stay (fun _ _ _ z => z) (fun c z => ?_) fun c xs z => ?_
  · rw [unt_ne (fun y => by rw [y, he] at z; cases z)]; exact z
  · rw [unt_ne (fun y => by rw [y, he] at z; cases z)]; exact z
theorem un_kept {outer : List Env} {env : Env} {L : Addr} (u : Un (frs outer) [] H H2 h0 h2) (k : Kept ((env :: outer).filterMap (·.frame)) ex h2 h') (hx : ∀ b ∈ ex, h0.get? b = none) (hf : env.frame = some L) (hL : h0.get? L = none) : Un (frs outer) [] H H2 h0 h' := by
  have nex : ∀ {b o}, h0.get? b = some o -> b ∉ ex := fun {b o} q z => by rw [hx b z] at q; cases q
  have inS : ∀ {b}, b ∈ frs outer -> b ∈ (env :: outer).filterMap (·.frame) := fun {b} z => by rw [List.filterMap_cons, hf]; exact List.mem_cons_of_mem _ z
  have outS : ∀ {b o}, h0.get? b = some o -> b ∉ frs outer -> b ∉ (env :: outer).filterMap (·.frame) := fun {b o} q n z => by
    rw [List.filterMap_cons, hf] at z
    rcases List.mem_cons.mp z with z | z
    · rw [z, hL] at q; cases q
    · exact n z
  refine ⟨fun b o q n hb _ => k.keep b o (nex q) (outS q hb) (u.keep b o q n hb (by simp)), fun b o q n hb _ => ?_, u.free, fun b o q _ => ?_, u.tups, u.frzs, u.tbls⟩
  · obtain ⟨sl, z⟩ := u.slot b o q n hb (by simp)
    obtain ⟨sl2, z2⟩ := k.slot b _ (nex q) (inS hb) z
    exact ⟨sl2, z2⟩
  · obtain ⟨o', z⟩ := u.there b o q (by simp)
    by_cases hb : b ∈ frs outer
    · obtain ⟨sl2, z2⟩ := k.slot b _ (nex q) (inS hb) z
      exact ⟨_, z2⟩
    · exact ⟨o', k.keep b o' (nex q) (outS q hb) z⟩
theorem hok_kept (ok : HOk P w H h) (k : Kept S ex h h') (hS : ∀ b ∈ S, H b = none) (hx : ∀ b ∈ ex, H b = none) : HOk P w H h' := fun b u q => by
  have tr : ∀ {c o}, H c = some o -> c ∉ S /\ c ∉ ex := fun {c o} z => ⟨fun y => (by rw [hS c y] at z; cases z), fun y => (by rw [hx c y] at z; cases z)⟩
  refine (ok b u q).stay (fun c v hc z => ?_) (fun _ z => z) fun _ _ z => z
  rcases hc with y | y
  · rw [y] at z ⊢; exact k.keep b v (tr q).2 (tr q).1 z
  · exact k.keep c v (tr y).2 (tr y).1 z
theorem excO_ok {nw : Bool} {C : Addr} {dO : Option Addr} (q : ∃ oe vs, h.get? e = some oe /\ oe.cls = .ref C /\ oe.dict = dO /\ oe.data = .fields vs /\ (nw = true -> vs[1]? = some .none /\ ∃ t0, vs[0]? = some (.ref t0))) : ObjOk P w H h e (excO nw e C dO) :=
  ⟨q, let ⟨oe, _, z, _⟩ := q; ⟨oe, z⟩, fun h1 h2 ⟨oe, vs, z, r⟩ k => ⟨oe, vs, k oe z, r⟩⟩
theorem excO_get {nw : Bool} {C : Addr} {dO : Option Addr} (ok : HOk P w H h) (q : H e = some (excO nw e C dO)) : ∃ oe vs, h.get? e = some oe /\ oe.cls = .ref C /\ oe.dict = dO /\ oe.data = .fields vs /\ (nw = true -> vs[1]? = some .none /\ ∃ t0, vs[0]? = some (.ref t0)) := (ok e _ q).1
theorem xdO_ok {d : Addr} {fs : List (Str × V)} (q : ∃ mA, h.Ns1 d mA /\ (∀ f, RelO (fs.lookup f) (mA f)) /\ PySem.Within mA (fs.map (·.1))) : ObjOk P w H h d (xdO d fs) :=
  ⟨q, let ⟨_, ⟨o, _, _, z, _⟩, _⟩ := q; ⟨o, z⟩, fun h1 h2 ⟨mA, ⟨o, es, ep, z, r⟩, r2⟩ k => ⟨mA, ⟨o, es, ep, k o z, r⟩, r2⟩⟩
end
noncomputable def CXF (P : Program) (w : World) (K : PySem.W.Frag) : CXT := fun outer H s E ev s' => ∃ (e C : Addr) (dO : Option Addr) (T : Addr) (H' : Hp), ev = .ref e /\ XC K C /\ s'.os = s.os /\ AllBare s'.gens /\ Un (frs outer) [] H H' s.heap s'.heap /\ HOk P w H' s'.heap /\
  s.heap.get? e = none /\ s.heap.get? T = none /\ H' e = none /\ H' T = none /\ Tb s'.heap e C dO T .none /\ E (.ref C) dO H'
noncomputable def Throws (X : Cx) (E : St -> XK) : Prop := ∀ (pins : List (Addr × Obj)) (σ : St) (H : Hp) (s : Shared) (e C : Addr) (dO : Option Addr), Inv X pins σ H s -> H e = some (excO true e C dO) -> X.H₀ e = none -> XC X.K C -> E σ (.ref C) dO (unt H e) -> X.xe (.ref e) s
noncomputable def PassesS (CX : CXT) (X : Cx) (E : St -> XK) : Prop := ∀ (pins : List (Addr × Obj)) (σ : St) (H : Hp) (s : Shared) (e : Value) (s' : Shared), Inv X pins σ H s -> CX X.stack H s (E σ) e s' -> X.xe e s'
section
variable {P : Program} {w : World} {K : PySem.W.Frag} {mg : Str -> Option Value} {base : Heap} {N : List Str} {qual : Str} {scope : Scope} {f : Addr} {cd : Value} {A : Around} {outer : List Env} {s : Shared} {H : Hp} {E : XK}
theorem throwF : Throws (cxOf (CXF P w K) P w K mg base N qual scope f cd A outer s H E) (fun _ => E) := by
  intro pins σ H1 s1 e C dO I he hn c q
  obtain ⟨oe, vs, x1, x2, x3, x4, x5⟩ := excO_get I.hok he
  have e0 : s.heap.get? e = none := by
    cases z : s.heap.get? e with
    | none => rfl
    | some o =>
      have := I.base.free e o z hn (by show e ∉ ([] : List Addr); simp)
      rw [he] at this; cases this
  show wpAny _ _ (leaving _ (.ref e)) _ _ s1
  unfold leaving
  refine wpAny_bind (x_note0 (base := base) (L := s.heap.objs.size) I.ok.frames I.stack rfl ⟨oe, vs, x1, x2, x3, x4, (x5 rfl).1⟩ fun h1 T hT tb k1 => ?_)
  refine x_land (S := (envOfC qual scope s.heap.objs.size f cd :: outer).filterMap (·.frame)) tb fun h2 tb2 k2 => ?_
  have T0 : s.heap.get? T = none := by
    cases z : s.heap.get? T with
    | none => rfl
    | some o =>
      obtain ⟨o', z'⟩ := I.base.there T o z (by show T ∉ ([] : List Addr); simp)
      rw [hT] at z'; cases z'
  have nT : H1 T = none := I.hok.none_of hT
  refine ⟨e, C, dO, T, unt H1 e, rfl, c, I.os, I.bare, un_kept (un_unt I.base ⟨_, he⟩) (k1.trans k2) (fun b hb => ?_) rfl (Heap.get?_none_of_le (Nat.le_refl _)), hok_kept (hok_unt I.hok ⟨_, he⟩) (k1.trans k2) (fun b hb => unt_none (I.stkFree b hb)) (fun b hb => ?_), e0, T0, unt_same, unt_none nT, tb2, q⟩
  · simp only [List.cons_append, List.nil_append, List.mem_cons, List.not_mem_nil, or_false] at hb
    rcases hb with z | z <;> rw [z] <;> assumption
  · simp only [List.cons_append, List.nil_append, List.mem_cons, List.not_mem_nil, or_false] at hb
    rcases hb with z | z <;> rw [z]
    · exact unt_same
    · exact unt_none nT
theorem passF : PassesS (CXF P w K) (cxOf (CXF P w K) P w K mg base N qual scope f cd A outer s H E) (fun _ => E) := by
  intro pins σ H1 s1 ev s2 I h
  obtain ⟨e, C, dO, T0, H2, rfl, c, os, bare, un, hok, n1, n2, n3, n4, tb0, q⟩ := h
  have I2 := I.call' os un hok bare (fun b z => absurd z (by simp))
  have old : ∀ {b}, s1.heap.get? b = none -> s.heap.get? b = none := fun {b} y => by
    cases z : s.heap.get? b with
    | none => rfl
    | some o =>
      obtain ⟨o', z'⟩ := I.base.there b o z (by show b ∉ ([] : List Addr); simp)
      rw [y] at z'; cases z'
  show wpAny _ _ (leaving _ (.ref e)) _ _ s2
  unfold leaving
  refine wpAny_bind (x_noteT (base := base) (L := s.heap.objs.size) I2.ok.frames I2.stack rfl tb0 fun h1 T hT tb k1 => ?_)
  refine x_land (S := (envOfC qual scope s.heap.objs.size f cd :: outer).filterMap (·.frame)) tb fun h2 tb2 k2 => ?_
  have oT : s.heap.get? T = none := by
    cases z : s.heap.get? T with
    | none => rfl
    | some o =>
      obtain ⟨o', z'⟩ := I2.base.there T o z (by show T ∉ ([] : List Addr); simp)
      rw [hT] at z'; cases z'
  have nT : H2 T = none := I2.hok.none_of hT
  refine ⟨e, C, dO, T, H2, rfl, c, I2.os, I2.bare, un_kept I2.base (k1.trans k2) (fun b hb => ?_) rfl (Heap.get?_none_of_le (Nat.le_refl _)), hok_kept I2.hok (k1.trans k2) (fun b hb => I2.stkFree b hb) (fun b hb => ?_), old n1, oT, n3, nT, tb2, q⟩
  · simp only [List.cons_append, List.nil_append, List.mem_cons, List.not_mem_nil, or_false] at hb
    rcases hb with z | z | z <;> rw [z]
    · exact old n2
    · exact old n1
    · exact oT
  · simp only [List.cons_append, List.nil_append, List.mem_cons, List.not_mem_nil, or_false] at hb
    rcases hb with z | z | z <;> rw [z] <;> assumption
end
end L2
set_option maxHeartbeats 4000000
namespace L2
open PySem PySem.Spec PyProof.Rows XL
theorem upd_id {H : Hp} {a : Addr} {o : HO} (h : H a = some o) : upd H a o = H := by
  funext b
  unfold upd
  split
  · rename_i z; rw [z, h]
  · rfl
section
variable {X : Cx} {pins : List (Addr × Obj)} {σ : St} {H : Hp} {s : Shared} {a : Addr} {o : HO}
theorem Inv.track (I : Inv X pins σ H s) (hn : H a = none) (h0 : X.s₀.heap.get? a = none) (hL : a ≠ X.env.locals) (hc : ∀ x c, X.env.cells.lookup x = some c -> c ≠ a) (hp : ∀ p ∈ X.pn ++ pins, p.1 ≠ a) (new : ObjOk X.prog X.w (upd H a o) s.heap a o) :
    Inv X pins σ (upd H a o) s := by
  refine ⟨I.ok, I.os, I.bare, ⟨I.base.keep, I.base.slot, fun b ob q n hx => ?_, I.base.there, fun b xs q => ?_, fun b ob u q => ?_, fun b ps q => ?_⟩, I.loc, I.cell, ?_, fun x c q => ?_, fun p hp' => ?_, fun b u q => ?_, I.len⟩
  · rw [upd_ne (fun z => by rw [z, h0] at q; cases q)]; exact I.base.free b ob q n hx
  · have z := I.base.tups b xs q
    rw [upd_ne (ne_of_none z hn)]; exact z
  · have z := I.base.frzs b ob u q
    rw [upd_ne (ne_of_none z hn)]; exact z
  · obtain ⟨more, z⟩ := I.base.tbls b ps q
    exact ⟨more, by rw [upd_ne (ne_of_none z hn)]; exact z⟩
  · rw [upd_ne (Ne.symm hL)]; exact I.free
  · rw [upd_ne (hc x c q)]; exact I.freeC x c q
  · obtain ⟨z1, z2, z3⟩ := I.pin p hp'
    exact ⟨z1, by rw [upd_ne (hp p hp')]; exact z2, z3⟩
  · by_cases hb : b = a
    · subst hb; rw [upd_same] at q; cases q; exact new
    · rw [upd_ne hb] at q
      exact (I.hok b u q).stay (fun _ _ _ z => z) (fun c z => by rw [upd_ne (ne_of_none z hn)]; exact z) fun c xs z => by rw [upd_ne (ne_of_none z hn)]; exact z
theorem Inv.untrack (I : Inv X pins σ H s) (he : ∃ φ, H a = some (.ext φ)) : Inv X pins σ (unt H a) s :=
  ⟨I.ok, I.os, I.bare, un_unt I.base he, I.loc, I.cell, unt_none I.free, fun x c q => unt_none (I.freeC x c q), fun p hp => let ⟨z1, z2, z3⟩ := I.pin p hp; ⟨z1, unt_none z2, z3⟩, hok_unt I.hok he, I.len⟩
theorem Inv.kept2 {ex : List Addr} {h' : Heap} (I : Inv X pins σ H s) (k : Kept (frs X.stack) ex s.heap h') (hx : ∀ b ∈ ex, X.s₀.heap.get? b = none /\ (∀ o, s.heap.get? b = some o -> ∃ vs, o.data = .fields vs) /\ (∀ p ∈ X.pn ++ pins, p.1 ≠ b) /\ H b = none) : Inv X pins σ H { s with heap := h' } := by
  have nL : X.env.locals ∉ ex := fun z => by
    obtain ⟨m, ⟨ol, es, ep, q, qd, _⟩, _⟩ := I.loc
    obtain ⟨vs, e⟩ := (hx _ z).2.1 ol q
    rw [qd] at e; cases e
  have any : ∀ {b ob}, b ∉ ex -> s.heap.get? b = some ob -> ∃ sl, h'.get? b = some { ob with slots := sl } := fun {b ob} n q => by
    by_cases hb : b ∈ frs X.stack
    · exact k.slot b ob n hb q
    · exact ⟨ob.slots, k.keep b ob n hb q⟩
  have nc : ∀ {x c}, X.env.cells.lookup x = some c -> c ∉ ex := fun {x c} e z => by
    obtain ⟨v, oc, q, qd⟩ := I.cell x c e
    obtain ⟨vs, e'⟩ := (hx _ z).2.1 oc q
    rw [qd] at e'; cases e'
  have nsx : ∀ {b ob}, X.s₀.heap.get? b = some ob -> b ∉ ex := fun {b ob} q z => by rw [(hx b z).1] at q; cases q
  have inS : ∀ {b}, b ∈ X.fs -> b ∈ frs X.stack := fun {b} hb => by
    rcases I.ok.stk with e | ⟨e, hf⟩
    · rw [e]; exact hb
    · rw [e]; unfold frs; rw [List.filterMap_cons, hf]; exact List.mem_cons_of_mem _ hb
  have outS : ∀ {b ob}, X.s₀.heap.get? b = some ob -> b ∉ X.fs -> b ∉ frs X.stack := fun {b ob} q n z => by
    rcases List.mem_cons.mp (I.stkSub b z) with y | y
    · exact absurd (Nat.lt_of_lt_of_le (Heap.lt_size q) I.ok.above) (by rw [y]; exact Nat.lt_irrefl _)
    · exact n y
  refine ⟨I.ok, I.os, I.bare, ⟨fun b ob q n hb hxx => k.keep b ob (nsx q) (outS q hb) (I.base.keep b ob q n hb hxx), fun b ob q n hb hxx => ?_, I.base.free, fun b ob q hxx => ?_, I.base.tups, I.base.frzs, I.base.tbls⟩, ?_, fun x c e => ?_, I.free, I.freeC, fun p hp => ?_, ?_, I.len⟩
  · obtain ⟨sl, z⟩ := I.base.slot b ob q n hb hxx
    obtain ⟨sl2, z2⟩ := any (nsx q) z
    exact ⟨sl2, z2⟩
  · obtain ⟨o', z⟩ := I.base.there b ob q hxx
    obtain ⟨sl2, z2⟩ := any (nsx q) z
    exact ⟨_, z2⟩
  · obtain ⟨m, ⟨ol, es, ep, q, qd, qr⟩, hl⟩ := I.loc
    obtain ⟨sl, z⟩ := any nL q
    refine ⟨m, ⟨_, es, ep, z, qd, qr⟩, fun i x v e1 e2 e3 => ?_⟩
    obtain ⟨u, r, l⟩ := hl i x v e1 e2 e3
    refine ⟨u, r, ?_⟩
    rcases l with l | ⟨kk, c, e, oc, q2, q3⟩
    · exact .inl l
    · obtain ⟨sl2, z2⟩ := any (nc e) q2
      exact .inr ⟨kk, c, e, _, z2, q3⟩
  · obtain ⟨v, oc, q, qd⟩ := I.cell x c e
    obtain ⟨sl, z⟩ := any (nc e) q
    exact ⟨v, _, z, qd⟩
  · obtain ⟨z1, z2, z3, z4, z5⟩ := I.pin p hp
    refine ⟨k.keep p.1 p.2 (fun y => (hx p.1 y).2.2.1 p hp rfl) (fun y => ?_) z1, z2, z3, z4, z5⟩
    rcases List.mem_cons.mp (I.stkSub p.1 y) with q | q
    · exact z3 q
    · exact z4 q
  · exact hok_kept I.hok k (fun b hb => I.stkFree b hb) fun b hb => (hx b hb).2.2.2
end
noncomputable def tCallX (sp : Sp) (dvs : List V) (E : St -> XK) (t : TA) : TE := fun σ H Q => t σ H fun vs H1 => sp (vs ++ dvs) H1 Q (E σ)
section
variable {X : Cx} {CX : CXT} {k : Nat} {f C : Addr} {fd : FuncData} {ps : List Str} {sp : Sp} {dvs : List V} {ds : List Value} {E : St -> XK} {x : Str} {p pos : Pos} {e : Expr} {es : List Expr} {ta te : TE} {t : TA}
theorem pe_callX (F : FnOk X.prog X.w X.K X.mg X.base CX k f fd ps sp) (hr : Room k X.A) (hg : Gl X x) (hm : X.mg x = some (.ref f)) (hk : PySem.W.keepIn X.K (.ref f) = true) (hb : Binds X.K fd ps ds) (hd : Vals dvs ds) (hx : PassesS CX X E)
    (ha : PA X (e :: es) t) (hdb : (x == ("__debug__" : Str)) = false := by decide) (he : starEach (e :: es) X.env = (false, eval e X.env) :: starEach es X.env := by rfl) (hpl : (backTo pos (starEach es X.env)).any (·.1) = false := by rfl) :
    PE X (.Call (.Name x p) (e :: es) [] pos) (tCallX sp dvs E t) := by
  intro pins s σ H Q I h
  refine wpAny_Call_Name_kw (ld_glob I hg hm ?_ hdb)
  refine PySem.W.callWith_K (h₀ := X.base) I.ok.mod.kin hk (thn (ha pos pins s σ H _ I h) fun us s1 ⟨vs, H1, I1, r, q⟩ => ⟨I1.kIn, ?_⟩) he hpl
  have r2 : Vals (vs ++ dvs) (us ++ ds) := r.append hd
  have hl : (us ++ ds).length = ps.length := by rw [<- r2.length]; exact F.len _ _ _ _ q
  refine wpAny_call (codeAny_mono (F.run X.A X.stack s1 H1 ⟨us, []⟩ (us ++ ds) (vs ++ dvs) Q (E σ) hr I1.env0 (hb s1 us I1.kIn hl) r2 q) fun rr s' hq => ?_)
  cases rr with
  | error ev => exact hx pins σ H1 s1 ev s' I1 hq
  | ok fl =>
    cases fl with
    | ret u => exact I1.after hq
    | next => exact False.elim hq
    | brk => exact False.elim hq
    | cont => exact False.elim hq
noncomputable def tRaise (K : PySem.W.Frag) (H0 : Hp) (E : St -> XK) (te : TE) : TS := fun _ σ H => te σ H fun v H1 => ∃ e C dO, v = .ref e /\ H1 e = some (excO true e C dO) /\ H0 e = none /\ XC K C /\ E σ (.ref C) dO (unt H1 e)
theorem ps_raise (hh : X.A.handled = none) (th : Throws X E) (hx : PE X e te) : PS X (.Raise (some e) none pos) (tRaise X.K X.H₀ E te) := by
  intro pins s σ H D I h
  rw [arm_exec_Raise]
  refine wpAny_bind (wpAny_standAt ?_)
  refine x_raise (K := X.K) hh ?_
  refine wpAny_bind (thn (hx pins s σ H _ I h) fun u s1 ⟨v, H1, I1, r, e1, C, dO, ev, he, h0, c, q⟩ => wpAny_bind (wpAny_standAt (wpAny_pure ?_)))
  subst ev
  obtain rfl : u = Value.ref e1 := r
  obtain ⟨oe, vs, x1, x2, x3, x4, x5⟩ := excO_get I1.hok he
  exact ⟨e1, C, oe, vs, rfl, I1.kIn, c, x1, x2, x4, (x5 rfl).1, th pins σ H1 s1 e1 C dO I1 he h0 c q⟩
end
section
variable {P : Program} {w : World} {K : PySem.W.Frag} {mg : Str -> Option Value} {base : Heap}
theorem Fun.okX {x qual : Str} {st : Stmt} {f : Addr} {fd : FuncData} {N ps : List Str} {k : Nat} {sp : Sp} (F : Fun K x qual st f fd) (S : FnScope N ps (defScope st)) (len : ∀ vs H Q E, sp vs H Q E -> vs.length = ps.length)
    (hbody : ∀ (cdv : Value) (A : Around) (outer : List Env) (s : Shared) (H : Hp) (vs : List V) (Q : VK) (E : XK), Room k (A.deeper (envOfC qual (defScope st) s.heap.objs.size f cdv)) -> sp vs H Q E ->
      ∃ t, PSs (cxOf (CXF P w K) P w K mg base N qual (defScope st) f cdv A outer s H E) (defBody st) t /\ t { nx := fun _ H' => Q .non H', rt := Q } (start N vs) H) : FnOk P w K mg base (CXF P w K) (k + 1) f fd ps sp := by
  obtain ⟨oc, od, kV, doc, pm, an, cdv, ct, osl, rfl, lk, hcd⟩ := F.ex
  exact fn_of lk hcd S len fun A outer s H vs Q E hr hsp => hbody cdv A outer s H vs Q E hr hsp
end
end L2
set_option maxHeartbeats 4000000
namespace L2
open PySem PySem.Spec PyProof.Rows XL
structure XInit (K : PySem.W.Frag) (C f : Addr) : Prop where
  c : XC K C
  init : PySem.W.findIn K (.ref C) "__init__" = some (some (.ref f))
  fn : PySem.W.isFn K (.ref f) = true
structure XBase (K : PySem.W.Frag) (M : Addr) : Prop where
  rd : PySem.W.readsIn K M (.type "type") = true
  ga : PySem.W.specialIn K (.ref M) "__getattribute__" = some (some (.builtin "type.__getattribute__"))
  fi : PySem.W.findCls K (.ref M) (.type "type") "__init__" = some (.val (.builtin "ValueError.__init__"))
noncomputable def tXMake (C : Addr) (sp : Sp) (t : TA) : TE := fun σ H Q => t σ H fun vs H1 => vs.length <= sizeLine /\ ∀ e, H1 e = none -> sp (.ref e :: vs) (upd H1 e (excO true e C none)) (fun v H2 => v = .non /\ Q (.ref e) H2) E0
section
variable {X : Cx} {k : Nat} {f C M : Addr} {fd : FuncData} {ps : List Str} {sp : Sp} {x : Str} {p pos apos : Pos} {e : Expr} {es : List Expr} {ta te tv : TE} {t : TA} {pins : List (Addr × Obj)} {σ : St} {H : Hp} {s : Shared}
theorem Inv.xmade {us : List Value} (I : Inv X pins σ H s) : Inv X pins σ (upd H (s.heap.objs.size + 1) (excO true (s.heap.objs.size + 1) C none)) { s with heap := (s.heap.push { cls := .type "tuple", data := .seq us.toArray }).push (excNew C s.heap.objs.size) } := by
  have I1 := I.kept (h' := s.heap.push { cls := .type "tuple", data := .seq us.toArray }) (t' := s.toks) fun b u q => Heap.get?_push_of_some _ q
  refine I1.laid (a := s.heap.objs.size + 1) (t' := s.toks) (fun b u q => Heap.get?_push_of_some _ q) (Nat.le_of_eq (Heap.size_push _ _)) (excO_ok ?_)
  have g : ((s.heap.push { cls := .type "tuple", data := .seq us.toArray }).push (excNew C s.heap.objs.size)).get? (s.heap.objs.size + 1) = some (excNew C s.heap.objs.size) := by
    have := Heap.get?_push_size (s.heap.push { cls := .type "tuple", data := .seq us.toArray }) (o := excNew C s.heap.objs.size) rfl
    rwa [Heap.size_push] at this
  exact ⟨_, _, g, rfl, rfl, rfl, fun _ => ⟨rfl, _, rfl⟩⟩
theorem pe_xmake (M : XInit X.K C f) (F : FnOk X.prog X.w X.K X.mg X.base CX0 k f fd ps sp) (hr : Room (k + 1) X.A) (hg : Gl X x) (hm : X.mg x = some (.ref C)) (hb : Binds X.K fd ps [])
    (ha : PA X (e :: es) t) (hdb : (x == ("__debug__" : Str)) = false := by decide) (he : starEach (e :: es) X.env = (false, eval e X.env) :: starEach es X.env := by rfl) (hpl : (backTo pos (starEach es X.env)).any (·.1) = false := by rfl) :
    PE X (.Call (.Name x p) (e :: es) [] pos) (tXMake C sp t) := by
  intro pins s σ H Q I h
  refine wpAny_Call_Name_kw (ld_glob I hg hm ?_ hdb)
  refine PySem.W.callWith_K (h₀ := X.base) I.ok.mod.kin M.c.kp (thn (ha pos pins s σ H _ I h) fun us s1 ⟨vs, H1, I1, r, hz, q⟩ => ⟨I1.kIn, ?_⟩) he hpl
  have I2 := Inv.xmade (C := C) (us := us) I1
  have hq := q (s1.heap.objs.size + 1) (I1.hok.fresh (Nat.le_succ _))
  have r2 : Vals (V.ref (s1.heap.objs.size + 1) :: vs) (Value.ref (s1.heap.objs.size + 1) :: us) := .cons rfl r
  have hl : (Value.ref (s1.heap.objs.size + 1) :: us ++ []).length = ps.length := by
    have z := r2.length
    rw [F.len _ _ _ _ hq] at z
    rw [List.append_nil]
    exact z.symm
  have hbb := hb { s1 with heap := (s1.heap.push { cls := .type "tuple", data := .seq us.toArray }).push (excNew C s1.heap.objs.size) } (Value.ref (s1.heap.objs.size + 1) :: us) I2.kIn hl
  rw [List.append_nil] at hbb
  have run := F.run _ X.stack _ _ ⟨Value.ref (s1.heap.objs.size + 1) :: us, []⟩ (Value.ref (s1.heap.objs.size + 1) :: us) _ _ E0 (hr.make C us []) (I2.env0.make C us []) hbb r2 hq
  have K1 := I1.kIn
  have fn := beq_iff_eq.mp M.fn
  obtain ⟨hh, gg, dd, tt, oo⟩ := s1
  refine x_call (xobj_of K1 M.c.is) (PySem.W.looks_findIn K1 M.init) (fun self => PySem.W.bind_fn K1 self fn) (by show us.length <= sizeLine; rw [<- r.length]; exact hz) ?_
  refine wpAny_call (codeAny_mono run fun rr s' hq' => ?_)
  cases rr with
  | error ev => exact hq'.elim
  | ok fl =>
    cases fl with
    | ret u =>
      obtain ⟨v, H', I3, rv, ev, q3⟩ := I2.after hq'
      subst ev
      exact ⟨rv, ⟨V.ref (hh.objs.size + 1), H', I3, rfl, q3⟩⟩
    | next => exact False.elim hq'
    | brk => exact False.elim hq'
    | cont => exact False.elim hq'
theorem Inv.xargs {ec : Addr} {dO : Option Addr} {us : List Value} (I : Inv X pins σ H s) (he : H ec = some (excO true ec C dO)) : Inv X pins σ H { s with heap := (s.heap.push { cls := .type "tuple", data := .seq us.toArray }).update ec (Obj.mapFields (·.setIfInBounds 0 (.ref s.heap.objs.size))) } := by
  obtain ⟨oe, vs, x1, x2, x3, x4, x5⟩ := excO_get I.hok he
  obtain ⟨y1, t0, y2⟩ := x5 rfl
  have I1 := I.kept (h' := s.heap.push { cls := .type "tuple", data := .seq us.toArray }) (t' := s.toks) fun b u q => Heap.get?_push_of_some _ q
  have d2 := Obj.data_mapFields x4 (·.setIfInBounds 0 (Value.ref s.heap.objs.size))
  have g := Heap.get?_update_self (Obj.mapFields (·.setIfInBounds 0 (Value.ref s.heap.objs.size))) (Heap.get?_push_of_some { cls := .type "tuple", data := .seq us.toArray } x1) (Obj.isFreed_of_fields d2)
  have hz : 0 < vs.size := (Array.getElem?_eq_some_iff.mp y2).1
  have := I1.write (x := ec) (e := ec) (o := excO true ec C dO) (t' := s.toks) (h' := (s.heap.push { cls := .type "tuple", data := .seq us.toArray }).update ec (Obj.mapFields (·.setIfInBounds 0 (.ref s.heap.objs.size)))) (by rw [he]; exact True.intro) (.inl rfl) (fun b u hb q => (Heap.get?_update_other _ _ (Ne.symm hb)).trans q) ⟨_, g⟩ (excO_ok ⟨_, _, g, (Obj.cls_mapFields _ _).trans x2, ?_, d2, fun _ => ⟨by rw [Array.getElem?_setIfInBounds_ne (by decide)]; exact y1, s.heap.objs.size, by simp [hz]⟩⟩)
  · rw [upd_id he] at this; exact this
  · rw [<- x3]
    obtain ⟨oc, od, odt, osl⟩ := oe
    cases (show odt = _ from x4)
    rfl
noncomputable def tXInit (K : PySem.W.Frag) (t : TA) : TE := fun σ H Q => t σ H fun vs H1 => ∃ e C dO rest, vs = .ref e :: rest /\ rest.length <= sizeLine /\ H1 e = some (excO true e C dO) /\ XC K C /\ Q .non H1
theorem pe_xinit {mx : Str} {mp : Pos} {pl : Sem Bool} (B : XBase X.K M) (hg : Gl X mx) (hm : X.mg mx = some (.ref M)) (ha : PA X (e :: es) t) (hdb : (mx == ("__debug__" : Str)) = false := by decide)
    (he : starEach (e :: es) X.env = (false, eval e X.env) :: starEach es X.env := by rfl) (hpl : (backTo pos (starEach es X.env)).any (·.1) = false := by rfl)
    (ht : eval (.Call (.Attribute (.Name mx mp) "__init__" apos) (e :: es) [] pos) X.env = (do
      let ov <- eval (.Name mx mp) X.env
      standAt apos.atName
      let (f, first) <- holding [ov] (getMethod ov "__init__" pl)
      callWith pos f first (backTo pos (starEach (e :: es) X.env)) (backToKw pos (keywordEach [] X.env))) := by rfl) :
    PE X (.Call (.Attribute (.Name mx mp) "__init__" apos) (e :: es) [] pos) (tXInit X.K t) := by
  intro pins s σ H Q I h
  refine PySem.W.methodCall_KW (pl := pl) (ld_glob I hg hm ?_ hdb) ht
  refine PySem.W.method_cls I.kIn B.ga (PySem.W.cls_value I.kIn B.rd B.fi rfl ?_)
  refine PyProof.Rows.callWith_builtin1 (thn (ha pos pins _ σ H _ (I.tok _) h) fun us s1 ⟨vs, H1, I1, r, ec, C, dO, rest, ev, hz, hec, c, q⟩ => ?_) he hpl
  subst ev
  obtain ⟨u0, ur, rfl, r0, r1⟩ : ∃ u0 ur, us = u0 :: ur /\ RelV (.ref ec) u0 /\ Vals rest ur := by
    cases r with
    | cons a b => exact ⟨_, _, rfl, a, b⟩
  obtain rfl : u0 = Value.ref ec := r0
  obtain ⟨oe, ws, x1, x2, x3, x4, x5⟩ := excO_get I1.hok hec
  obtain ⟨y1, t0, y2⟩ := x5 rfl
  have I2 := I1.xargs (us := ur) hec
  have K1 := I1.kIn
  obtain ⟨hh, gg, dd, tt, oo⟩ := s1
  exact x_init (xobj_of K1 c.is) x1 x2 x4 y2 (by rw [<- r1.length]; exact hz) ⟨.non, H1, I2, rfl, q⟩
noncomputable def sXFld (K : PySem.W.Frag) (ta tv : TE) (f : Str) : TS := fun D σ H => tv σ H fun y H1 => ta σ H1 fun x H2 => ∃ e C, x = .ref e /\ XC K C /\ NoAttr K C f /\
  ((H2 e = some (excO true e C none) /\ ∀ d, H2 d = none -> d ≠ e -> D.nx σ (upd (upd H2 e (excO true e C (some d))) d (xdO d [(f, y)]))) \/
   (∃ d fs, H2 e = some (excO true e C (some d)) /\ H2 d = some (xdO d fs) /\ d ≠ e /\ fs.length < 1000 /\ D.nx σ (upd H2 d (xdO d (putF f y fs)))))
theorem ps_xfld {o value : Expr} {g : Str} {pos' : Pos} (ha : PE X o ta) (hv : PE X value tv) (hs : swapsWith value (some (.Attribute o g pos')) pos.line X.env = pure false) : PS X (.Assign [.Attribute o g pos'] value pos) (sXFld X.K ta tv g) := by
  intro pins s σ H D I h
  refine plainObj_wpAny_Assign_Attribute (thn (hv pins s σ H _ I h) fun u s1 ⟨y, H1, I1, ry, q⟩ => thn (ha pins s1 σ H1 _ I1 q) fun ov s2 ⟨x, H2, I2, rx, e, C, ex, c, n, q2⟩ => ?_) hs
  subst ex
  obtain rfl : ov = Value.ref e := rx
  have K2 := I2.kIn
  rcases q2 with ⟨he, q2⟩ | ⟨d, fs, he, hd, ne, hl, q2⟩
  · obtain ⟨oe, vs, x1, x2, x3, x4, x5⟩ := excO_get I2.hok he
    have nd : H2 s2.heap.objs.size = none := I2.hok.fresh (Nat.le_refl _)
    have lt : s2.heap.objs.size ≠ e := Nat.ne_of_gt (Heap.lt_size x1)
    have Fd := Inv.fpOk (H' := H2) I2 (Nat.le_refl s2.heap.objs.size) nd
    have s0 : X.s₀.heap.get? s2.heap.objs.size = none := Heap.get?_none_of_le I2.sz
    have fin := q2 _ nd lt
    have base : Inv X pins σ H2 s2 := I2
    obtain ⟨hh, gg, dd, tt, oo⟩ := s2
    refine x_set (ns := []) (mA := fun _ => none) K2 (xobj_of K2 c.is) c.sa n ⟨oe, x1, x2, (fun cc z => by (rw [x4] at z; cases z)), .inl ⟨x3, fun _ => rfl⟩⟩ (fun h' tk' In kp sm => ?_) (fun _ z => absurd rfl z) (by decide)
    obtain ⟨o1, z1, z2, z3, z4, z5, z6⟩ := sm oe x1
    have keep : ∀ b u, b ≠ e -> hh.get? b = some u -> h'.get? b = some u := fun b u hb q => kp b u hb (fun o₀ dx e0 e1 => by (rw [x1] at e0; cases e0; rw [x3] at e1; cases e1)) q
    have J := base.write (x := e) (e := e) (o := excO true e C (some hh.objs.size)) (t' := tk') (by rw [he]; exact True.intro) (.inl rfl) keep ⟨o1, z1⟩ (excO_ok ⟨o1, vs, z1, z2.trans x2, z6 x3, z3.trans x4, x5⟩)
    obtain ⟨o2, w1, w2, w3, w4⟩ := In
    rw [z1] at w1
    cases w1
    have ns : h'.Ns1 hh.objs.size (fun y => if y = g then some u else none) := by
      rcases w4 with ⟨b1, _⟩ | ⟨dx, b1, _, b3⟩
      · rw [z6 x3] at b1; cases b1
      · rw [z6 x3] at b1; cases b1; exact b3
    refine ⟨σ, _, J.track (a := hh.objs.size) (o := xdO hh.objs.size [(g, y)]) (by rw [upd_ne lt]; exact nd) s0 Fd.2.1 Fd.2.2.2.2.1 Fd.2.2.2.2.2 (xdO_ok ⟨_, ns, fun a => ?_, fun a ha => ?_⟩), fin⟩
    · show RelO (List.lookup a [(g, y)]) (if a = g then some u else none)
      by_cases z : a = g
      · subst z
        rw [if_pos rfl, List.lookup_cons, beq_self_eq_true]
        exact ry
      · rw [if_neg z, List.lookup_cons, beq_eq_false_iff_ne.mpr z]
        trivial
    · have : a = g := by
        by_cases z : a = g
        · exact z
        · exact absurd (show (if a = g then some u else none) = none by rw [if_neg z]) ha
      rw [this]; simp
  · obtain ⟨oe, vs, x1, x2, x3, x4, x5⟩ := excO_get I2.hok he
    obtain ⟨mA, n1, n2, n3⟩ := (I2.hok d _ hd).1
    have base : Inv X pins σ H2 s2 := I2
    obtain ⟨hh, gg, dd, tt, oo⟩ := s2
    refine x_set (ns := fs.map (·.1)) (mA := mA) K2 (xobj_of K2 c.is) c.sa n ⟨oe, x1, x2, (fun cc z => by (rw [x4] at z; cases z)), .inr ⟨d, x3, ne, n1⟩⟩ (fun h' tk' In kp sm => ?_) n3 (by rw [List.length_map]; exact small1000 (Nat.le_of_lt hl))
    obtain ⟨o1, z1, z2, z3, z4, z5, z6⟩ := sm oe x1
    have d1 := z5 d x3
    have oo1 : o1 = oe := by
      obtain ⟨a1, a2, a3, a4⟩ := o1
      obtain ⟨b1, b2, b3, b4⟩ := oe
      dsimp only at z2 z3 z4 d1 x3
      rw [z2, z3, z4, d1, x3]
    obtain ⟨o2, w1, w2, w3, w4⟩ := In
    rw [z1] at w1
    cases w1
    have ns : h'.Ns1 d (fun y => if y = g then some u else mA y) := by
      rcases w4 with ⟨b1, _⟩ | ⟨dx, b1, _, b3⟩
      · rw [d1] at b1; cases b1
      · rw [d1] at b1; cases b1; exact b3
    have keep : ∀ b u, b ≠ d -> hh.get? b = some u -> h'.get? b = some u := fun b u hb q => by
      by_cases z : b = e
      · rw [z] at q ⊢
        rw [x1] at q
        cases q
        rw [z1, oo1]
      · exact kp b u z (fun o₀ dx e0 e1 => by (rw [x1] at e0; cases e0; rw [x3] at e1; cases e1; exact hb)) q
    refine ⟨σ, _, base.write (x := d) (e := d) (o := xdO d (putF g y fs)) (t' := tk') (by rw [hd]; exact True.intro) (.inl rfl) keep (let ⟨o', _, _, zz, _⟩ := ns; ⟨o', zz⟩) (xdO_ok ⟨_, ns, fun a => ?_, fun a ha => ?_⟩), q2⟩
    · show RelO ((putF g y fs).lookup a) (if a = g then some u else mA a)
      rw [lookup_putF]
      by_cases z : a = g
      · rw [if_pos z, if_pos z]; exact ry
      · rw [if_neg z, if_neg z]; exact n2 a
    · by_cases z : a = g
      · rw [z]; exact (keys_putF g y fs).1
      · refine (keys_putF g y fs).2 a (n3 a fun zz => ha ?_)
        show (if a = g then some u else mA a) = none
        rw [if_neg z]; exact zz
noncomputable def tXFld (K : PySem.W.Frag) (ta : TE) (f : Str) : TE := fun σ H Q => ta σ H fun x H1 => ∃ e C nw d fs v, x = .ref e /\ H1 e = some (excO nw e C (some d)) /\ XC K C /\ NoAttr K C f /\ H1 d = some (xdO d fs) /\ fs.lookup f = some v /\ Q v H1
theorem pe_xfld {o : Expr} {g : Str} (ha : PE X o ta) (hb : attributeBase o g X.env (eval o X.env) = eval o X.env) : PE X (.Attribute o g pos) (tXFld X.K ta g) := by
  intro pins s σ H Q I h
  refine attr_of hb (thn (ha pins s σ H _ I h) fun u s1 ⟨x, H1, I1, rx, e, C, nw, d, fs, v, ex, he, c, n, hd, hl, q⟩ => ?_)
  subst ex
  obtain rfl : u = Value.ref e := rx
  obtain ⟨oe, vs, x1, x2, x3, x4, x5⟩ := excO_get I1.hok he
  obtain ⟨mA, n1, n2, n3⟩ := (I1.hok d _ hd).1
  obtain ⟨od, hod, hlk⟩ := lookIn_ns n1
  obtain ⟨u', hu, ru⟩ := RelO.some_of (v := v) (o := mA g) (by rw [<- hl]; exact n2 g)
  have K1 := I1.kIn
  have fin : ∀ t', Inv X pins σ H1 { s1 with toks := t' } := fun t' => I1.tok t'
  have inst : PySem.W.InstAt s1.heap e oe C (some od) := ⟨x1, x2, by unfold PySem.W.notCls; rw [x4], by rw [x3]; exact hod⟩
  obtain ⟨hh, gg, dd, tt, oo⟩ := s1
  exact x_get K1 (xobj_of K1 c.is) c.ga c.gh n inst (by rw [hlk, hu]) (handed_of ru) ⟨v, H1, fin _, ru, q⟩
noncomputable def clsV : V -> Option Value
  | .ref a => some (.ref a)
  | .ty n => some (.type n)
  | _ => none
theorem clsV_rel {v : V} {u z : Value} (h : clsV v = some z) (r : RelV v u) : u = z := by
  cases v <;> first | (cases h; exact r) | cases h
noncomputable def rIsX (K : PySem.W.Frag) : List V -> Hp -> VK -> Prop := fun xs H Q => ∃ e C nw dO c z b, xs = [.ref e, c] /\ H e = some (excO nw e C dO) /\ (∀ d, dO = some d -> ∃ fs, H d = some (xdO d fs)) /\ XC K C /\ clsV c = some z /\ PySem.W.kitOne K (.ref C) z = some b /\ Q (.bl b) H
theorem xat_of {e C : Addr} {nw : Bool} {dO : Option Addr} (I : Inv X pins σ H s) (he : H e = some (excO nw e C dO)) (hd : ∀ d, dO = some d -> ∃ fs, H d = some (xdO d fs)) : XAt e C s.heap := by
  obtain ⟨oe, vs, x1, x2, x3, x4, _⟩ := excO_get I.hok he
  refine ⟨oe, x1, x2, by unfold PySem.W.notCls; rw [x4], fun d q => ?_⟩
  rw [x3] at q
  obtain ⟨fs, h2⟩ := hd d q
  exact (I.hok d _ h2).some_
theorem call_isX (K : PySem.W.Frag) (h : X.K = K) : CallR X (.builtin "isinstance") (rIsX K) := by
  subst h
  intro pins s σ H xs us Q I r h
  obtain ⟨e, C, nw, dO, c, z, b, rfl, he, hd, xc, hz, hk, q⟩ := h
  obtain ⟨u, w', rfl, r1, r2⟩ := vals2 r
  obtain rfl : u = Value.ref e := r1
  cases clsV_rel hz r2
  exact PySem.W.kia_one (kitx_exc xc) I.kIn (xat_of I he hd) hk (fun z => nomatch z) fun tk => ⟨.bl b, H, I.tok _, rfl, q⟩
noncomputable def clsVs : List V -> Option (List Value)
  | [] => some []
  | v :: r => match clsV v, clsVs r with
    | some z, some zs => some (z :: zs)
    | _, _ => none
theorem clsVs_rel : ∀ {vs : List V} {us zs : List Value}, clsVs vs = some zs -> Vals vs us -> us = zs
  | [], _, _, h, .nil => by cases h; rfl
  | v :: r, _, zs, h, .cons a b => by
    unfold clsVs at h
    split at h
    · rename_i z zs' h1 h2
      cases h
      rw [clsV_rel h1 a, clsVs_rel h2 b]
    · cases h
noncomputable def rIsXT (K : PySem.W.Frag) : List V -> Hp -> VK -> Prop := fun xs H Q => ∃ e C nw dO tp cs zs b, xs = [.ref e, .ref tp] /\ H e = some (excO nw e C dO) /\ (∀ d, dO = some d -> ∃ fs, H d = some (xdO d fs)) /\ XC K C /\ H tp = some (.tup cs) /\ clsVs cs = some zs /\ PySem.W.kitAny K (.ref C) zs = some b /\ Q (.bl b) H
theorem call_isXT (K : PySem.W.Frag) (h : X.K = K) : CallR X (.builtin "isinstance") (rIsXT K) := by
  subst h
  intro pins s σ H xs us Q I r h
  obtain ⟨e, C, nw, dO, tp, cs, zs, b, rfl, he, hd, xc, ht, hz, hk, q⟩ := h
  obtain ⟨u, w', rfl, r1, r2⟩ := vals2 r
  obtain rfl : u = Value.ref e := r1
  obtain rfl : w' = Value.ref tp := r2
  obtain ⟨_, its, rv, ob, o1, o2, n, o3⟩ := (show ObjOk X.prog X.w H s.heap tp (.tup cs) from I.hok tp _ ht)
  have := clsVs_rel hz rv
  subst this
  obtain ⟨a1, a2, a3, a4⟩ := ob
  cases (show a1 = _ from o2)
  cases (show a3 = _ from o3)
  exact PySem.W.kia_tup (kitx_exc xc) I.kIn (xat_of I he hd) o1 hk (fun z => nomatch z) fun tk => ⟨.bl b, H, I.tok _, rfl, q⟩
end
end L2
set_option maxHeartbeats 4000000
namespace L2
open PySem PySem.Spec PyProof.Rows XL
noncomputable abbrev cxTry (X : Cx) (pn : List (Addr × Obj)) (W : Value -> Shared -> Prop) : Cx := { X with pn := X.pn ++ pn, xe := W }
noncomputable abbrev cxIn (X : Cx) (ev : Value) : Cx := { X with A := X.A.mark (some ev), calm := false, xe := fun _ _ => False }
section
variable {X : Cx} {pins pn : List (Addr × Obj)} {σ : St} {H : Hp} {s : Shared} {W : Value -> Shared -> Prop} {ev : Value}
theorem Inv.toTry (I : Inv X pins σ H s) : Inv (cxTry X pins W) [] σ H s :=
  ⟨⟨I.ok.mod, I.ok.kind, I.ok.glob, I.ok.blt, I.ok.above, I.ok.inj, I.ok.has, I.ok.cab, I.ok.hd, I.ok.frames, I.ok.stk, I.ok.exf, I.ok.bs, I.ok.bsz, I.ok.noex, I.ok.exfs, I.ok.funs, I.ok.frf⟩, I.os, I.bare, I.base, I.loc, I.cell, I.free, I.freeC, fun p hp => I.pin p (by simpa using hp), I.hok, I.len⟩
theorem Inv.ofTry (I : Inv (cxTry X pn W) pins σ H s) : Inv X pn σ H s :=
  ⟨⟨I.ok.mod, I.ok.kind, I.ok.glob, I.ok.blt, I.ok.above, I.ok.inj, I.ok.has, I.ok.cab, I.ok.hd, I.ok.frames, I.ok.stk, I.ok.exf, I.ok.bs, I.ok.bsz, I.ok.noex, I.ok.exfs, I.ok.funs, I.ok.frf⟩, I.os, I.bare, I.base, I.loc, I.cell, I.free, I.freeC, fun p hp => I.pin p (List.mem_append_left _ hp), I.hok, I.len⟩
theorem Inv.toIn (I : Inv X pins σ H s) : Inv (cxIn X ev) pins σ H s :=
  ⟨⟨I.ok.mod, I.ok.kind, I.ok.glob, I.ok.blt, I.ok.above, I.ok.inj, I.ok.has, I.ok.cab, (fun z => by cases z), I.ok.frames, I.ok.stk, I.ok.exf, I.ok.bs, I.ok.bsz, I.ok.noex, I.ok.exfs, I.ok.funs, I.ok.frf⟩, I.os, I.bare, I.base, I.loc, I.cell, I.free, I.freeC, I.pin, I.hok, I.len⟩
theorem Inv.ofIn (ok : X.Ok) (I : Inv (cxIn X ev) pins σ H s) : Inv X pins σ H s := ⟨ok, I.os, I.bare, I.base, I.loc, I.cell, I.free, I.freeC, I.pin, I.hok, I.len⟩
theorem Inv.unbind {i : Nat} {x : Str} {M : Model} {A : Around} {E : Value -> Shared -> Prop} {Q : Unit -> Shared -> Prop} {v : V} (I : Inv X pins σ H s) (hN : X.N.Nodup) (hi : X.N[i]? = some x) (hx : X.env.kindOf x = some .local) (hv : σ[i]? = some (some v))
    (h : ∀ s', Inv X pins (σ.set i none) H s' -> Q () s') : wpAny M A (unbindName X.env x) Q E s := by
  obtain ⟨m, hn, hl⟩ := id I.loc
  have hcls : (X.env.scope.kind == .class || (X.env.scope.kind == .module && X.env.locals != X.env.globals)) = false := by rw [I.ok.kind]; rfl
  obtain ⟨u, _, hu⟩ := hl i x v hi hv (.inl hx)
  have mu : m x = some u := by
    rcases hu with ⟨_, z⟩ | ⟨z, _⟩
    · exact z
    · rcases z with z | z <;> (rw [hx] at z; cases z)
  obtain ⟨oL, esL, epL, hoL, dL, rL⟩ := id hn
  refine wpAny_unbindName_local hx hn mu hcls fun h' w hn' hs => h _ ?_
  have neL : ∀ b o, X.s₀.heap.get? b = some o -> b ≠ X.env.locals := fun b o e => Nat.ne_of_lt (Nat.lt_of_lt_of_le (Heap.lt_size e) I.ok.above)
  refine ⟨I.ok, I.os, I.bare, ⟨fun b o e n hb hxx => (hs.2 b (neL b o e)).trans (I.base.keep b o e n hb hxx), fun b o e n hb hxx => ?_, I.base.free, fun b o e hxx => ?_, I.base.tups, I.base.frzs, I.base.tbls⟩, ⟨_, hn', fun j y v' e1 e2 e3 => ?_⟩, fun y c e => ?_, I.free, I.freeC, fun p hp => ?_, fun b ob e => ?_, by simpa using I.len⟩
  · obtain ⟨sl, e1⟩ := I.base.slot b o e n hb hxx
    exact ⟨sl, (hs.2 b (neL b o e)).trans e1⟩
  · obtain ⟨o', e1⟩ := I.base.there b o e hxx
    exact ⟨o', (hs.2 b (neL b o e)).trans e1⟩
  · have ji : j ≠ i := fun z => by
      rw [z] at e2
      by_cases hlt : i < σ.length
      · rw [List.getElem?_set_self hlt] at e2; cases e2
      · rw [List.getElem?_eq_none (by simpa using hlt)] at e2; cases e2
    rw [List.getElem?_set_ne (Ne.symm ji)] at e2
    obtain ⟨u', r', q⟩ := hl j y v' e1 e2 e3
    refine ⟨u', r', ?_⟩
    rcases q with ⟨k, e⟩ | ⟨k, c, e, z⟩
    · refine .inl ⟨k, ?_⟩
      have ne : y ≠ x := fun z => ji (nodup_ix hN e1 (z ▸ hi))
      show (if y = x then w else m y) = some u'
      rw [if_neg ne]; exact e
    · exact .inr ⟨k, c, e, z.sameBut hs (I.cne y c e)⟩
  · obtain ⟨v', z⟩ := I.cell y c e
    exact ⟨v', z.sameBut hs (I.cne y c e)⟩
  · obtain ⟨e, n, ne, nf, d⟩ := I.pin p hp
    exact ⟨(hs.2 p.1 ne).trans e, n, ne, nf, d⟩
  · refine (I.hok b ob e).stay (fun c w' hc q => (hs.2 c ?_).trans q) (fun _ q => q) fun _ _ q => q
    rintro rfl
    rcases hc with rfl | hc
    · rw [I.free] at e; cases e
    · rw [I.free] at hc; cases hc
end
noncomputable def hTry (K : PySem.W.Frag) (M : Addr) (n : Nat) (th : TS) (D : Ends) : St -> XK := fun σ c dO H' => ∃ C, c = .ref C /\ PySem.W.mroIn K C (.ref M) = some true /\ (∀ d, dO = some d -> ∃ fs, H' d = some (xdO d fs)) /\
  ∀ e, H' e = none -> th { nx := fun σ' H'' => D.nx (σ'.set n none) H'', rt := D.rt, bk := fun σ' H'' => D.bk (σ'.set n none) H'', ct := fun σ' H'' => D.ct (σ'.set n none) H'' } (σ.set n (some (.ref e))) (upd H' e (excO false e C dO))
noncomputable def tTry (K : PySem.W.Frag) (M : Addr) (n : Nat) (tb : (St -> XK) -> TS) (th : TS) : TS := fun D σ H => tb (hTry K M n th D) D σ H
section
variable {X : Cx} {M : Addr} {n : Nat} {mx nm : Str} {body suite : List Stmt} {b₀ : Stmt} {tb : (St -> XK) -> TS} {th : TS} {pos hpos mp : Pos} {pins : List (Addr × Obj)} {σ : St} {H : Hp} {s : Shared} {D : Ends}
theorem try_end {e C : Addr} {dO : Option Addr} {f : Flow} (ok : X.Ok) (hN : X.N.Nodup) (hni : X.N[n]? = some nm) (hnl : X.env.kindOf nm = some .local)
    (h : SP (cxIn X (.ref e)) pins { nx := fun σ' H'' => D.nx (σ'.set n none) H'', rt := D.rt, bk := fun σ' H'' => D.bk (σ'.set n none) H'', ct := fun σ' H'' => D.ct (σ'.set n none) H'' } f s) :
    wpAny (model X.prog X.w) X.A (do bindName X.env nm .none; unbindBehindTheSuite X.env nm hpos) (fun _ s₅ => SP X pins D f s₅) X.xe s := by
  have go : ∀ {σ' : St} {H' : Hp} {Q : Unit -> Shared -> Prop}, Inv (cxIn X (.ref e)) pins σ' H' s -> (∀ s', Inv X pins (σ'.set n none) H' s' -> Q () s') -> wpAny (model X.prog X.w) X.A (do bindName X.env nm .none; unbindBehindTheSuite X.env nm hpos) Q X.xe s := fun {σ' H' Q} J k => by
    have I5 := J.ofIn ok
    have hlt : n < σ'.length := by rw [I5.len]; exact (List.getElem?_eq_some_iff.mp hni).1
    refine wpAny_bind (wpAny_bindName (store_ok I5 hN hni (.inl hnl) (v := .non) rfl (fun s6 I6 => ?_) (.inr hnl)))
    unfold unbindBehindTheSuite
    refine wpAny_onRaise (I6.unbind hN hni hnl (v := .non) (List.getElem?_set_self hlt) fun s7 I7 => ?_)
    rw [List.set_set] at I7
    exact k s7 I7
  cases f with
  | next => obtain ⟨σ', H', J, q⟩ := h; exact go J fun s' I' => ⟨_, H', I', q⟩
  | brk => obtain ⟨σ', H', J, q⟩ := h; exact go J fun s' I' => ⟨_, H', I', q⟩
  | cont => obtain ⟨σ', H', J, q⟩ := h; exact go J fun s' I' => ⟨_, H', I', q⟩
  | ret u => obtain ⟨v, σ', H', J, r, q⟩ := h; exact go J fun s' I' => ⟨v, _, H', I', r, q⟩
theorem try_handle {e C T : Addr} {dO : Option Addr} (cm : XC X.K M) (hg : Gl X mx) (hm : X.mg mx = some (.ref M)) (hN : X.N.Nodup) (hni : X.N[n]? = some nm) (hnl : X.env.kindOf nm = some .local) (hh : ∀ ev, PSs (cxIn X ev) (b₀ :: suite) th)
    (I : Inv X pins σ H s) (c : XC X.K C) (tb : Tb s.heap e C dO T .none) (e0 : X.s₀.heap.get? e = none) (T0 : X.s₀.heap.get? T = none) (pe : ∀ p ∈ X.pn ++ pins, p.1 ≠ e) (pT : ∀ p ∈ X.pn ++ pins, p.1 ≠ T) (He : H e = none) (HT : H T = none) (q : hTry X.K M n th D σ (.ref C) dO H)
    (hdb : (mx == ("__debug__" : Str)) = false) : wpAny (model X.prog X.w) X.A (handleBy (.ref e) X.env [.ExceptHandler (some (.Name mx mp)) (some nm) (b₀ :: suite) hpos]) (SP X pins D) X.xe s := by
  obtain ⟨C', ec, hs, hd, q⟩ := q
  cases ec
  have q := q e He
  refine wpAny_handleBy_cons (codeAny_handlers_test ?_) (by intro q; cases q)
  refine ld_glob (X := cxIn X (.ref e)) I.toIn hg hm ?_ hdb
  have K1 := I.kIn
  have id := tb
  obtain ⟨oe, vs, oT, ts, t1, t2, t3, t4, t5, t6, t7, t8, t9⟩ := id
  have xat : XAt e C s.heap := ⟨oe, t1, t2, by unfold PySem.W.notCls; rw [t4], fun d z => by
    rw [t3] at z
    obtain ⟨fs, y⟩ := hd d z
    exact (I.hok d _ y).some_⟩
  have neL : e ≠ X.env.locals := fun z => by
    obtain ⟨m, ⟨ol, es, ep, y, yd, _⟩, _⟩ := I.loc
    rw [<- z, t1] at y
    cases y
    rw [t4] at yd; cases yd
  have nec : ∀ x cc, X.env.cells.lookup x = some cc -> cc ≠ e := fun x cc y z => by
    obtain ⟨v, oc, y1, y2⟩ := I.cell x cc y
    rw [z, t1] at y1
    cases y1
    rw [t4] at y2; cases y2
  have I0 : Inv X pins σ H s := I
  obtain ⟨h0, gg, dd, tt, oo⟩ := s
  refine x_matches K1 c cm hs xat ?_
  refine codeAny_handlers_suite_as ?_
  refine x_land (S := frs X.stack) tb fun h1 tb1 k1 => ?_
  have I1 := I0.kept2 k1 (fun b hb => by
    have z : b = T := List.mem_singleton.mp hb
    rw [z]
    refine ⟨T0, fun o y => ⟨ts, ?_⟩, pT, HT⟩
    rw [t7] at y
    cases y
    exact t8)
  obtain ⟨oe', vs', _, _, u1, u2, u3, u4, _⟩ := tb1
  have I2 := I1.track (a := e) (o := excO false e C dO) He e0 neL nec pe (excO_ok ⟨oe', vs', u1, u2, u3, u4, fun z => nomatch z⟩)
  refine store_ok I2 hN hni (.inl hnl) (v := .ref e) rfl (fun s4 I4 => ?_) (.inr hnl)
  refine wpAny_mono (hh (.ref e) pins s4 _ _ _ I4.toIn q) (fun f s5 sp => ?_) fun _ _ z => z.elim
  exact try_end (C := C) (dO := dO) I0.ok hN hni hnl sp
theorem ps_try (cm : XC X.K M) (hg : Gl X mx) (hm : X.mg mx = some (.ref M)) (hN : X.N.Nodup) (hni : X.N[n]? = some nm) (hnl : X.env.kindOf nm = some .local) (hstk : X.stack = X.env :: X.outer) (hfrm : X.env.frame = some X.env.locals) (hexn : X.ex = [])
    (hb : ∀ pn W E, Throws (cxTry X pn W) E -> PassesS (CXF X.prog X.w X.K) (cxTry X pn W) E -> PSs (cxTry X pn W) body (tb E)) (hh : ∀ ev, PSs (cxIn X ev) (b₀ :: suite) th) (hdb : (mx == ("__debug__" : Str)) = false := by decide) :
    PS X (.Try body [.ExceptHandler (some (.Name mx mp)) (some nm) (b₀ :: suite) hpos] [] [] pos) (tTry X.K M n tb th) := by
  intro pins s σ H D I h
  refine wpAny_Try_except ?_
  have frames : X.A.frames = some (X.env :: X.outer) := by rw [<- hstk]; exact I.ok.frames
  refine wpAny_mono (hb pins _ (hTry X.K M n th D) ?_ ?_ [] s σ H D I.toTry h) (fun f s1 q => ?_) fun e s1 z => z
  · intro pins' σ' H1 s1 e C dO J he h0 c q
    have I1 := J.ofTry
    obtain ⟨oe, vs, x1, x2, x3, x4, x5⟩ := excO_get I1.hok he
    have stack1 : s1.heap.FunFrames X.base (X.env :: X.outer) := by rw [<- hstk]; exact I1.stack
    have e0 : X.s₀.heap.get? e = none := by
      cases z : X.s₀.heap.get? e with
      | none => rfl
      | some o =>
        have := I1.base.free e o z h0 (by rw [hexn]; simp)
        rw [he] at this; cases this
    have pe : ∀ p ∈ X.pn ++ pins, p.1 ≠ e := fun p hp z => by
      have := (I1.pin p hp).2.1
      rw [z, he] at this; cases this
    show wpAny _ _ (noteFrame (.ref e) X.env) _ _ s1
    refine x_note0 (base := X.base) (L := X.env.locals) frames stack1 hfrm ⟨oe, vs, x1, x2, x3, x4, (x5 rfl).1⟩ fun h1 T hT tb k1 => ?_
    refine x_land (S := frs X.stack) tb fun h2 tb2 k2 => ?_
    have k1' : Kept (frs X.stack) [e] s1.heap h1 := by rw [hstk]; exact k1
    have T0 : X.s₀.heap.get? T = none := by
      cases z : X.s₀.heap.get? T with
      | none => rfl
      | some o =>
        obtain ⟨o', z'⟩ := I1.base.there T o z (by rw [hexn]; simp)
        rw [hT] at z'; cases z'
    have pT : ∀ p ∈ X.pn ++ pins, p.1 ≠ T := fun p hp z => by
      have := (I1.pin p hp).1
      rw [z, hT] at this; cases this
    have nT : H1 T = none := I1.hok.none_of hT
    have I2 := (I1.untrack ⟨_, he⟩).kept2 (k1'.trans k2) (fun b hbx => by
      simp only [List.cons_append, List.nil_append, List.mem_cons, List.not_mem_nil, or_false] at hbx
      rcases hbx with z | z
      · rw [z]
        refine ⟨e0, fun o y => ⟨vs, ?_⟩, pe, unt_same⟩
        rw [x1] at y; cases y; exact x4
      · rw [z]
        refine ⟨T0, fun o y => ?_, pT, unt_none nT⟩
        rw [hT] at y; cases y)
    exact try_handle cm hg hm hN hni hnl hh I2 c tb2 e0 T0 pe pT unt_same (unt_none nT) q hdb
  · intro pins' σ' H1 s1 ev s2 J hcx
    have I1 := J.ofTry
    obtain ⟨e, C, dO, T1, H2, rfl, c, os, bare, un, hok, n1, n2, n3, n4, tb0, q⟩ := hcx
    have I2 := I1.call' os un hok bare (fun b z => absurd z (by simp))
    have stack2 : s2.heap.FunFrames X.base (X.env :: X.outer) := by rw [<- hstk]; exact I2.stack
    have old : ∀ {b}, s1.heap.get? b = none -> X.s₀.heap.get? b = none := fun {b} y => by
      cases z : X.s₀.heap.get? b with
      | none => rfl
      | some o =>
        obtain ⟨o', z'⟩ := I1.base.there b o z (by rw [hexn]; simp)
        rw [y] at z'; cases z'
    have pin1 : ∀ {b}, s1.heap.get? b = none -> ∀ p ∈ X.pn ++ pins, p.1 ≠ b := fun {b} y p hp z => by
      have := (I1.pin p hp).1
      rw [z, y] at this; cases this
    have tb0' := tb0
    obtain ⟨oe, vs, oT1, ts, x1, x2, x3, x4, x5, x6, x7, x8, x9⟩ := tb0
    show wpAny _ _ (noteFrame (.ref e) X.env) _ _ s2
    refine x_noteT (base := X.base) (L := X.env.locals) frames stack2 hfrm tb0' fun h1 T hT tb k1 => ?_
    refine x_land (S := frs X.stack) tb fun h2 tb2 k2 => ?_
    have k1' : Kept (frs X.stack) [T1, e] s2.heap h1 := by rw [hstk]; exact k1
    have T0 : X.s₀.heap.get? T = none := by
      cases z : X.s₀.heap.get? T with
      | none => rfl
      | some o =>
        obtain ⟨o', z'⟩ := I2.base.there T o z (by rw [hexn]; simp)
        rw [hT] at z'; cases z'
    have pT : ∀ p ∈ X.pn ++ pins, p.1 ≠ T := fun p hp z => by
      have := (I2.pin p hp).1
      rw [z, hT] at this; cases this
    have nT : H2 T = none := I2.hok.none_of hT
    have I3 := I2.kept2 (k1'.trans k2) (fun b hbx => by
      simp only [List.cons_append, List.nil_append, List.mem_cons, List.not_mem_nil, or_false] at hbx
      rcases hbx with z | z | z
      · rw [z]
        refine ⟨old n2, fun o y => ⟨ts, ?_⟩, pin1 n2, n4⟩
        rw [x7] at y; cases y; exact x8
      · rw [z]
        refine ⟨old n1, fun o y => ⟨vs, ?_⟩, pin1 n1, n3⟩
        rw [x1] at y; cases y; exact x4
      · rw [z]
        refine ⟨T0, fun o y => ?_, pT, nT⟩
        rw [hT] at y; cases y)
    exact try_handle cm hg hm hN hni hnl hh I3 c tb2 (old n1) T0 (pin1 n1) pT n3 nT q hdb
  · cases f with
    | next => obtain ⟨σ', H', J, q⟩ := q; exact wpAny_execs_nil ⟨σ', H', J.ofTry, q⟩
    | brk => obtain ⟨σ', H', J, q⟩ := q; exact ⟨σ', H', J.ofTry, q⟩
    | cont => obtain ⟨σ', H', J, q⟩ := q; exact ⟨σ', H', J.ofTry, q⟩
    | ret u => obtain ⟨v, σ', H', J, r, q⟩ := q; exact ⟨v, σ', H', J.ofTry, r, q⟩
end
end L2
set_option maxHeartbeats 4000000
namespace L2
open PySem PySem.Spec PyProof.Rows XL
noncomputable def inC (s : Stmt) (j : Nat) : Stmt := match s with
  | .ClassDef _ _ _ b _ _ _ _ _ _ _ => b.getD j (.Pass ⟨0, 0, 0, 0⟩)
  | _ => .Pass ⟨0, 0, 0, 0⟩
noncomputable def sp_X2 (C : Addr) (f g : Str) : Sp := fun vs H Q _ => ∃ e v u, vs = [.ref e, v, u] /\ f ≠ g /\ H e = some (excO true e C none) /\ ∀ d, H d = none -> d ≠ e -> Q .non (upd (upd H e (excO true e C (some d))) d (xdO d [(f, v), (g, u)]))
theorem len_X2 {C : Addr} {f g : Str} {vs : List V} {H : Hp} {Q : VK} {E : XK} (h : sp_X2 C f g vs H Q E) : vs.length = 3 := by obtain ⟨_, _, _, rfl, _⟩ := h; rfl
structure Made (H H' : Hp) (e d : Addr) (C : Addr) (fs : List (Str × V)) : Prop where
  ne : H e = none
  nd : H d = none
  ap : d ≠ e
  at_ : H' e = some (excO true e C (some d))
  di : H' d = some (xdO d fs)
  old : ∀ b, b ≠ e -> b ≠ d -> H' b = H b
theorem Made.same {H H' : Hp} {e d C : Addr} {fs : List (Str × V)} (m : Made H H' e d C fs) : Same H H' := fun b o q => by
  rw [m.old b (fun z => by rw [z, m.ne] at q; cases q) (fun z => by rw [z, m.nd] at q; cases q)]; exact q
theorem Made.gone {H H' : Hp} {e d C : Addr} {fs : List (Str × V)} (m : Made H H' e d C fs) : Same H (unt H' e) /\ unt H' e d = some (xdO d fs) := by
  refine ⟨fun b o q => ?_, ?_⟩
  · rw [unt_ne (fun z => by rw [z, m.ne] at q; cases q)]; exact m.same b o q
  · rw [unt_ne m.ap]; exact m.di
theorem made_of {H : Hp} {e d C : Addr} {fs : List (Str × V)} (ne : H e = none) (nd : upd H e (excO true e C none) d = none) (ap : d ≠ e) :
    Made H (upd (upd (upd H e (excO true e C none)) e (excO true e C (some d))) d (xdO d fs)) e d C fs := by
  rw [upd_ne ap] at nd
  refine ⟨ne, nd, ap, ?_, upd_same, fun b h1 h2 => ?_⟩
  · rw [upd_ne (Ne.symm ap), upd_same]
  · rw [upd_ne h2, upd_ne h1, upd_ne h1]
theorem mk_X2 {H : Hp} {Q : VK} {C : Addr} {f g : Str} {v u : V} (fg : f ≠ g) (h : ∀ e d H', Made H H' e d C [(f, v), (g, u)] -> Q (.ref e) H') : [v, u].length <= sizeLine /\ ∀ e, H e = none -> sp_X2 C f g (.ref e :: [v, u]) (upd H e (excO true e C none)) (fun u H2 => u = .non /\ Q (.ref e) H2) E0 :=
  ⟨by show 2 <= sizeLine; decide, fun e ne => ⟨e, v, u, rfl, fg, upd_same, fun d nd ap => ⟨rfl, h e d _ (made_of ne nd ap)⟩⟩⟩
theorem put2 {f g : Str} {v u : V} (h : f ≠ g) : putF g u [(f, v)] = [(f, v), (g, u)] := by
  show (if f = g then _ else _) = _
  rw [if_neg h]; rfl
theorem kitAny_no {K : PySem.W.Frag} {t : Value} : ∀ {zs : List Value}, (∀ z ∈ zs, PySem.W.kitOne K t z = some false) -> PySem.W.kitAny K t zs = some false
  | [], _ => rfl
  | z :: zs, h => by
    unfold PySem.W.kitAny
    rw [h z List.mem_cons_self]
    exact kitAny_no fun y hy => h y (List.mem_cons_of_mem _ hy)
theorem boot_VE : bootBuiltins "ValueError" = some (.type "ValueError") := PyProof.Rows.Boot.«ValueError»
end L2
set_option maxHeartbeats 4000000
namespace L2
open PySem PySem.Spec PyProof.Rows XL
theorem Same.none_ {H H' : Hp} {p : Addr} (s : Same H H') (n : H' p = none) : H p = none := by
  cases q : H p with
  | none => rfl
  | some o => rw [s p o q] at n; cases n
theorem raise_X2 {K : PySem.W.Frag} {H0 H : Hp} {E : XK} {C : Addr} {f g : Str} {v u : V} (fg : f ≠ g) (xc : XC K C) (h0 : Same H0 H) (h : ∀ d H', H' d = some (xdO d [(f, v), (g, u)]) -> Same H H' -> E (.ref C) (some d) H') :
    [v, u].length <= sizeLine /\ ∀ e, H e = none -> sp_X2 C f g (.ref e :: [v, u]) (upd H e (excO true e C none)) (fun u H2 => u = .non /\ ∃ e' C' dO, V.ref e = .ref e' /\ H2 e' = some (excO true e' C' dO) /\ H0 e' = none /\ XC K C' /\ E (.ref C') dO (unt H2 e')) E0 :=
  mk_X2 (Q := fun v H1 => ∃ e' C' dO, v = .ref e' /\ H1 e' = some (excO true e' C' dO) /\ H0 e' = none /\ XC K C' /\ E (.ref C') dO (unt H1 e')) fg fun e d H' m => ⟨e, C, some d, rfl, m.at_, h0.none_ m.ne, xc, h d _ m.gone.2 m.gone.1⟩
theorem pe_xfldK {X : Cx} (K : PySem.W.Frag) (h : X.K = K) {o : Expr} {g : Str} {pos : Pos} {ta : TE} (ha : PE X o ta) (hb : attributeBase o g X.env (eval o X.env) = eval o X.env) : PE X (.Attribute o g pos) (tXFld K ta g) := by subst h; exact pe_xfld ha hb
theorem ps_raiseK {X : Cx} {e : Expr} {te : TE} {pos : Pos} {E : St -> XK} (K : PySem.W.Frag) (H0 : Hp) (hK : X.K = K) (hH : X.H₀ = H0) (hh : X.A.handled = none) (th : Throws X E) (hx : PE X e te) : PS X (.Raise (some e) none pos) (tRaise K H0 E te) := by
  subst hK hH
  exact ps_raise hh th hx
end L2
namespace PySem
theorem Runs.det {M : Model} {Γ : Ctx} {p : Pos} {t : Sem Fin} {fs : List Frame} {s s' : Shared} {e : End} (h : Runs M Γ p t fs s e s') : ∀ e2 s2, Runs M Γ p t fs s e2 s2 -> e2 = e /\ s2 = s' := by
  induction h with
  | done => intro e2 s2 h2; cases h2; exact ⟨rfl, rfl⟩
  | raise => intro e2 s2 h2; cases h2; exact ⟨rfl, rfl⟩
  | again _ _ ih => intro e2 s2 h2; cases h2; rename_i h; exact ih _ _ h
  | rule _ ih => intro e2 s2 h2; cases h2; rename_i h; exact ih _ _ h
  | «at» _ ih => intro e2 s2 h2; cases h2; rename_i h; exact ih _ _ h
  | load ho _ ih => intro e2 s2 h2; cases h2; rename_i ho' h; rw [ho] at ho'; cases ho'; exact ih _ _ h
  | update _ _ ih => intro e2 s2 h2; cases h2; rename_i h; exact ih _ _ h
  | loadIfAlive _ ih => intro e2 s2 h2; cases h2; rename_i h; exact ih _ _ h
  | point _ ih => intro e2 s2 h2; cases h2; rename_i h; exact ih _ _ h
  | alloc _ ih => intro e2 s2 h2; cases h2; rename_i h; exact ih _ _ h
  | fresh _ ih => intro e2 s2 h2; cases h2; rename_i h; exact ih _ _ h
  | ask _ ih => intro e2 s2 h2; cases h2; rename_i h; exact ih _ _ h
  | choose _ _ ih => intro e2 s2 h2; cases h2; rename_i h; exact ih _ _ h
  | os _ ih => intro e2 s2 h2; cases h2; rename_i h; exact ih _ _ h
  | handled _ ih => intro e2 s2 h2; cases h2; rename_i h; exact ih _ _ h
  | genState ho _ ih => intro e2 s2 h2; cases h2; rename_i ho' h; rw [ho] at ho'; cases ho'; exact ih _ _ h
  | stack _ ih => intro e2 s2 h2; cases h2; rename_i h; exact ih _ _ h
  | thread _ ih => intro e2 s2 h2; cases h2; rename_i h; exact ih _ _ h
  | newGen _ ih => intro e2 s2 h2; cases h2; rename_i h; exact ih _ _ h
  | call _ _ ih1 ih2 =>
    intro e2 s2 h2
    cases h2 with
    | call a b => obtain ⟨x, y⟩ := ih1 _ _ a; cases x; cases y; exact ih2 _ _ b
    | callSusp a => obtain ⟨x, y⟩ := ih1 _ _ a; cases x
  | callSusp _ ih1 =>
    intro e2 s2 h2
    cases h2 with
    | call a b => obtain ⟨x, y⟩ := ih1 _ _ a; cases x
    | callSusp a => obtain ⟨x, y⟩ := ih1 _ _ a; cases x; cases y; exact ⟨rfl, rfl⟩
  | yield => intro e2 s2 h2; cases h2; exact ⟨rfl, rfl⟩
  | resumeFresh g1 _ q _ ih1 ih2 =>
    intro e2 s2 h2
    cases h2 with
    | resumeFresh g2 a _ b => rw [g1] at g2; cases g2; obtain ⟨x, y⟩ := ih1 _ _ a; cases x; cases y; exact ih2 _ _ b
    | resumeSuspended g2 a _ b => rw [g1] at g2; cases g2
    | resumeJustStarted g2 v b => exact absurd rfl v
    | resumeRunning g2 b => rw [g1] at g2; cases g2
    | resumeFinished g2 b => rw [g1] at g2; cases g2
  | resumeSuspended g1 _ q _ ih1 ih2 =>
    intro e2 s2 h2
    cases h2 with
    | resumeFresh g2 a _ b => rw [g1] at g2; cases g2
    | resumeSuspended g2 a _ b => rw [g1] at g2; cases g2; obtain ⟨x, y⟩ := ih1 _ _ a; cases x; cases y; exact ih2 _ _ b
    | resumeJustStarted g2 v b => rw [g1] at g2; cases g2
    | resumeThrowFresh g2 b => rw [g1] at g2; cases g2
    | resumeRunning g2 b => rw [g1] at g2; cases g2
    | resumeFinished g2 b => rw [g1] at g2; cases g2
  | resumeJustStarted g1 v _ ih =>
    intro e2 s2 h2
    cases h2 with
    | resumeFresh g2 a _ b => exact absurd rfl v
    | resumeSuspended g2 a _ b => rw [g1] at g2; cases g2
    | resumeJustStarted g2 _ b => exact ih _ _ b
    | resumeRunning g2 b => rw [g1] at g2; cases g2
    | resumeFinished g2 b => rw [g1] at g2; cases g2
  | resumeThrowFresh g1 _ ih =>
    intro e2 s2 h2
    cases h2 with
    | resumeSuspended g2 a _ b => rw [g1] at g2; cases g2
    | resumeThrowFresh g2 b => exact ih _ _ b
    | resumeRunning g2 b => rw [g1] at g2; cases g2
    | resumeFinished g2 b => rw [g1] at g2; cases g2
  | resumeRunning g1 _ ih =>
    intro e2 s2 h2
    cases h2 with
    | resumeFresh g2 a _ b => rw [g1] at g2; cases g2
    | resumeSuspended g2 a _ b => rw [g1] at g2; cases g2
    | resumeJustStarted g2 v b => rw [g1] at g2; cases g2
    | resumeThrowFresh g2 b => rw [g1] at g2; cases g2
    | resumeRunning g2 b => exact ih _ _ b
    | resumeFinished g2 b => rw [g1] at g2; cases g2
  | resumeFinished g1 _ ih =>
    intro e2 s2 h2
    cases h2 with
    | resumeFresh g2 a _ b => rw [g1] at g2; cases g2
    | resumeSuspended g2 a _ b => rw [g1] at g2; cases g2
    | resumeJustStarted g2 v b => rw [g1] at g2; cases g2
    | resumeThrowFresh g2 b => rw [g1] at g2; cases g2
    | resumeRunning g2 b => rw [g1] at g2; cases g2
    | resumeFinished g2 b => exact ih _ _ b
  | segRet _ _ ih1 ih2 =>
    intro e2 s2 h2
    cases h2 with
    | segRet a b => obtain ⟨x, y⟩ := ih1 _ _ a; cases x; cases y; exact ih2 _ _ b
    | segSuspOut q a => obtain ⟨x, y⟩ := ih1 _ _ a; cases x
    | segSuspGen q a _ b => obtain ⟨x, y⟩ := ih1 _ _ a; cases x
  | segGen _ _ ih1 ih2 =>
    intro e2 s2 h2
    cases h2 with
    | segGen a b => obtain ⟨x, y⟩ := ih1 _ _ a; cases x; cases y; exact ih2 _ _ b
    | segSuspOut q a => obtain ⟨x, y⟩ := ih1 _ _ a; cases x
    | segSuspGen q a _ b => obtain ⟨x, y⟩ := ih1 _ _ a; cases x
  | segSuspOut q1 _ ih1 =>
    intro e2 s2 h2
    cases h2 with
    | segRet a b => obtain ⟨x, y⟩ := ih1 _ _ a; cases x
    | segGen a b => obtain ⟨x, y⟩ := ih1 _ _ a; cases x
    | segSuspOut q a => obtain ⟨x, y⟩ := ih1 _ _ a; cases x; cases y; exact ⟨rfl, rfl⟩
    | segSuspGen q a _ b => rw [q1] at q; cases q
  | segSuspGen q1 _ _ _ ih1 ih2 =>
    intro e2 s2 h2
    cases h2 with
    | segRet a b => obtain ⟨x, y⟩ := ih1 _ _ a; cases x
    | segGen a b => obtain ⟨x, y⟩ := ih1 _ _ a; cases x
    | segSuspOut q a => rw [q1] at q; cases q
    | segSuspGen q a _ b => rw [q1] at q; cases q; obtain ⟨x, y⟩ := ih1 _ _ a; cases x; cases y; exact ih2 _ _ b
theorem Wakes.det {M : Model} {Γ : Ctx} {p : Pos} {g : Nat} {r : Resume} {s s' s2 : Shared} {res res2 : GenResult} (h : Wakes M Γ p g r s res s') (h2 : Wakes M Γ p g r s res2 s2) : res2 = res /\ s2 = s' := by
  unfold Wakes at h h2
  cases hg : s.gens[g]? with
  | none => rw [hg] at h; exact h.elim
  | some st =>
    rw [hg] at h h2
    cases st with
    | fresh c =>
      cases r with
      | send v =>
        cases v with
        | none => obtain ⟨e1, s1, a, _, rfl, rfl⟩ := h; obtain ⟨e2, s2', b, _, rfl, rfl⟩ := h2; obtain ⟨rfl, rfl⟩ := a.det _ _ b; exact ⟨rfl, rfl⟩
        | _ => exact ⟨h2.1.trans h.1.symm, h2.2.trans h.2.symm⟩
      | throw x => exact ⟨h2.1.trans h.1.symm, h2.2.trans h.2.symm⟩
    | suspended k0 l0 c0 p0 f0 c1 => obtain ⟨e1, s1, a, _, rfl, rfl⟩ := h; obtain ⟨e2, s2', b, _, rfl, rfl⟩ := h2; obtain ⟨rfl, rfl⟩ := a.det _ _ b; exact ⟨rfl, rfl⟩
    | running => exact ⟨h2.1.trans h.1.symm, h2.2.trans h.2.symm⟩
    | finished => exact ⟨h2.1.trans h.1.symm, h2.2.trans h.2.symm⟩
theorem wp_and {α : Type} (M : Model) (Γ : Ctx) (t : Sem α) : ∀ (Q Q' : α -> Pos -> Shared -> Prop) (E E' : Value -> Pos -> Shared -> Prop) (p : Pos) (s : Shared), Sem.wp M Γ t Q E p s -> Sem.wp M Γ t Q' E' p s ->
    Sem.wp M Γ t (fun a p s => Q a p s /\ Q' a p s) (fun a p s => E a p s /\ E' a p s) p s := by
  induction t with
  | pure a => intro Q Q' E E' p s h h'; exact ⟨h, h'⟩
  | raise e => intro Q Q' E E' p s h h'; exact ⟨h, h'⟩
  | unsupported _ => intro Q Q' E E' p s h h'; exact h
  | finish _ => intro Q Q' E E' p s h h'; exact h
  | rule _ k ih => intro Q Q' E E' p s h h'; exact ih () _ _ _ _ p s h h'
  | «at» p' k ih => intro Q Q' E E' p s h h'; exact ih () _ _ _ _ p' s h h'
  | load a _ k ih => intro Q Q' E E' p s h h'; obtain ⟨o, ho, h⟩ := h; obtain ⟨o', ho', h'⟩ := h'; rw [ho] at ho'; cases ho'; exact ⟨o, ho, ih o _ _ _ _ p s h h'⟩
  | update a _ f k ih => intro Q Q' E E' p s h h'; exact ⟨h.1, ih () _ _ _ _ p _ h.2 h'.2⟩
  | loadIfAlive a k ih => intro Q Q' E E' p s h h'; exact ih _ _ _ _ _ p s h h'
  | point _ k ih => intro Q Q' E E' p s h h'; exact ih () _ _ _ _ p s h h'
  | register _ _ => intro Q Q' E E' p s h h'; exact h
  | alloc o k ih => intro Q Q' E E' p s h h'; exact ih _ _ _ _ _ p _ h h'
  | fresh k ih => intro Q Q' E E' p s h h'; exact ih _ _ _ _ _ p _ h h'
  | ask k ih => intro Q Q' E E' p s h h'; exact ih _ _ _ _ _ p s h h'
  | choose src m k ih => intro Q Q' E E' p s h h'; exact ⟨h.1, ih _ _ _ _ _ p _ h.2 h'.2⟩
  | os q _ k ih => intro Q Q' E E' p s h h'; exact ih _ _ _ _ _ p _ h h'
  | call c hd _ _ k ih =>
    intro Q Q' E E' p s h h'
    obtain ⟨r, s1, hr, h⟩ := h
    obtain ⟨r', s1', hr', h'⟩ := h'
    obtain ⟨e1, rfl⟩ := Runs.det hr _ _ hr'
    cases e1
    exact ⟨r, s1', hr, ih r _ _ _ _ p s1' h h'⟩
  | handled own k ih => intro Q Q' E E' p s h h'; exact ih _ _ _ _ _ p s h h'
  | genState g k ih => intro Q Q' E E' p s h h'; obtain ⟨o, ho, h⟩ := h; obtain ⟨o', ho', h'⟩ := h'; rw [ho] at ho'; cases ho'; exact ⟨o, ho, ih _ _ _ _ _ p s h h'⟩
  | newGen c k ih => intro Q Q' E E' p s h h'; exact ih _ _ _ _ _ p _ h h'
  | resume g r _ k ih =>
    intro Q Q' E E' p s h h'
    obtain ⟨x, s1, hr, h⟩ := h
    obtain ⟨x', s1', hr', h'⟩ := h'
    obtain ⟨rfl, rfl⟩ := hr.det hr'
    exact ⟨x', s1', hr, ih x' _ _ _ _ p s1' h h'⟩
  | yield _ _ _ _ => intro Q Q' E E' p s h h'; exact h
  | stack k ih => intro Q Q' E E' p s h h'; exact ih _ _ _ _ _ p s h h'
  | fork _ _ => intro Q Q' E E' p s h h'; exact h
  | thread k ih => intro Q Q' E E' p s h h'; exact ih _ _ _ _ _ p s h h'
  | await _ _ _ _ _ => intro Q Q' E E' p s h h'; exact h
theorem wpAny_and {α : Type} {M : Model} {A : Around} {t : Sem α} {Q Q' : α -> Shared -> Prop} {E E' : Value -> Shared -> Prop} {s : Shared} (h : wpAny M A t Q E s) (h' : wpAny M A t Q' E' s) :
    wpAny M A t (fun a s => Q a s /\ Q' a s) (fun a s => E a s /\ E' a s) s := fun Γ p hΓ => wp_and M Γ t _ _ _ _ p s (h Γ p hΓ) (h' Γ p hΓ)
end PySem
namespace L2
open PySem PySem.Spec PyProof.Rows
structure FnOkG (P : Program) (w : World) (K : PySem.W.Frag) (mg : Str -> Option Value) (base : Heap) (k : Nat) (f : Addr) (fd : FuncData) (ps : List Str) (sp : Sp) (pre : List Value -> Shared -> Prop) (post : Shared -> Prop) : Prop where
  len : ∀ vs H Q E, sp vs H Q E -> vs.length = ps.length
  run : ∀ (A : Around) (outer : List Env) (s : Shared) (H : Hp) (args : Args) (us : List Value) (vs : List V) (Q : VK) (E : XK), Room k A -> Env0 P w K mg base A outer s H -> BindsTo s fd args (ps.zip us) -> Vals vs us -> pre us s -> sp vs H Q E ->
    codeAny (model P w) A (.call (.ref f) args) (fun r s' => CR CX0 outer P w H s Q E r s' /\ post s') s
section
variable {P : Program} {w : World} {K : PySem.W.Frag} {mg : Str -> Option Value} {base : Heap}
end
end L2
namespace L2
open PySem PySem.Spec PyProof.Rows
noncomputable def spl (c : Nat) : List Nat -> List (List Nat)
  | [] => [[]]
  | d :: r => if d = c then [] :: spl c r else match spl c r with | [] => [[d]] | p :: ps => (d :: p) :: ps
theorem spl_ne (c : Nat) : ∀ l, ∃ p ps, spl c l = p :: ps
  | [] => ⟨_, _, rfl⟩
  | d :: r => by
    unfold spl
    split
    · exact ⟨_, _, rfl⟩
    · obtain ⟨p, ps, e⟩ := spl_ne c r
      rw [e]; exact ⟨_, _, rfl⟩
noncomputable def ats (c : Nat) : Nat -> List Nat -> List Nat
  | _, [] => []
  | a, d :: r => if d = c then a :: ats c (a + 1) r else ats c (a + 1) r
theorem occ_ats (l : List Nat) (c lim : Nat) : ∀ (r : List Nat) (a : Nat) (st : Array Nat × Nat), l.drop a = r -> st.2 <= a -> st.1.size + r.length < lim ->
    (forIn (List.range' a (r.length + 1)) st (StrLaws.occBody (S l) (S [c]) l.length lim)).run.fst.toList = st.1.toList ++ ats c a r
  | [], a, st, hd, hf, hl => by
    have hal : l.length <= a := List.drop_eq_nil_iff.mp hd
    show (forIn [a] st (StrLaws.occBody (S l) (S [c]) l.length lim)).run.fst.toList = st.1.toList ++ []
    rw [List.forIn_cons, List.append_nil]
    unfold StrLaws.occBody
    rw [if_neg (by rw [S_len]; simp only [List.length_cons, List.length_nil]; omega)]
    rfl
  | d :: r, a, st, hd, hf, hl => by
    have hal : a < l.length := by
      have := congrArg List.length hd
      simp only [List.length_drop, List.length_cons] at this
      omega
    have hget : l[a]? = some d := by
      have := congrArg (fun z => z[0]?) hd
      simpa using this
    have hd' : l.drop (a + 1) = r := by
      have := congrArg List.tail hd
      simpa using this
    show (forIn (a :: List.range' (a + 1) (r.length + 1)) st (StrLaws.occBody (S l) (S [c]) l.length lim)).run.fst.toList = _
    rw [List.forIn_cons]
    have hsub : Builtin.Str.subAt (S l) (S [c]) a = (l[a]? == some c) := subAt_one l c a
    simp only [List.length_cons] at hl
    by_cases h : d = c
    · subst h
      unfold StrLaws.occBody
      rw [if_pos (by rw [hsub, hget, S_len]; simp only [List.length_cons, List.length_nil]; exact ⟨⟨⟨by omega, hf⟩, by omega⟩, by simp⟩)]
      have ih := occ_ats l d lim r (a + 1) (st.1.push a, a + (S [d]).length) hd' (by rw [S_len]; simp) (by simp only [Array.size_push]; omega)
      unfold ats
      rw [if_pos rfl]
      refine Eq.trans ih ?_
      simp
    · unfold StrLaws.occBody
      rw [if_neg (by rw [hsub, hget]; simp [h])]
      have ih := occ_ats l c lim r (a + 1) st hd' (by omega) (by omega)
      unfold ats
      rw [if_neg h]
      exact ih
theorem occ_all (l : List Nat) (c lim : Nat) (h : l.length < lim) : Builtin.Str.occurrences (S l) (S [c]) 0 (S l).length lim = ats c 0 l := by
  rw [StrLaws.occ_eq, S_len]
  exact (occ_ats l c lim l 0 (#[], 0) rfl (Nat.le_refl _) (by simpa using h)).trans (by simp)
theorem strSub_S (l : List Nat) (i j : Nat) : Builtin.Str.strSub (S l) i j = S ((l.drop i).take (j - i)) := by
  apply Str.ext'
  apply Array.toList_inj.mp
  rw [StrLaws.strSub_toList]
  simp [S]
theorem parts_spl (l : List Nat) (c : Nat) : ∀ (r : List Nat) (a b : Nat), b <= a -> l.drop a = r -> (∀ d ∈ (l.drop b).take (a - b), d ≠ c) ->
    StrLaws.partsFrom (S l) 1 b (ats c a r) = ((match spl c r with | [] => [] | p :: ps => ((l.drop b).take (a - b) ++ p) :: ps)).map S
  | [], a, b, hba, hd, hn => by
    have hal : l.length <= a := List.drop_eq_nil_iff.mp hd
    show [Builtin.Str.strSub (S l) b (S l).length] = [S ((l.drop b).take (a - b) ++ [])]
    rw [strSub_S, S_len, List.append_nil]
    congr 2
    rw [List.take_of_length_le (by rw [List.length_drop]; omega), List.take_of_length_le (by rw [List.length_drop]; omega)]
  | d :: r, a, b, hba, hd, hn => by
    have hal : a < l.length := by
      have := congrArg List.length hd
      simp only [List.length_drop, List.length_cons] at this
      omega
    have hd' : l.drop (a + 1) = r := by
      have := congrArg List.tail hd
      simpa using this
    have hget : l[a]? = some d := by
      have := congrArg (fun z => z[0]?) hd
      simpa using this
    by_cases h : d = c
    · subst h
      unfold ats spl
      rw [if_pos rfl, if_pos rfl]
      show Builtin.Str.strSub (S l) b a :: StrLaws.partsFrom (S l) 1 (a + 1) (ats d (a + 1) r) = S _ :: (spl d r).map S
      rw [strSub_S, List.append_nil, parts_spl l d r (a + 1) (a + 1) (Nat.le_refl _) hd' (by simp)]
      obtain ⟨p, ps, e⟩ := spl_ne d r
      rw [e]
      simp
    · have e1 : (l.drop b).take (a + 1 - b) = (l.drop b).take (a - b) ++ [d] := by
        have e0 : a + 1 - b = (a - b) + 1 := by omega
        rw [e0, List.take_add_one, List.getElem?_drop]
        have e2 : b + (a - b) = a := by omega
        rw [e2, hget]
        rfl
      have ih := parts_spl l c r (a + 1) b (by omega) hd' (by
        rw [e1]
        intro z hz
        rcases List.mem_append.mp hz with q | q
        · exact hn z q
        · rw [List.mem_singleton.mp q]; exact h)
      unfold ats spl
      rw [if_neg h, if_neg h, ih]
      obtain ⟨p, ps, e⟩ := spl_ne c r
      rw [e, e1]
      simp
theorem split_S (l : List Nat) (c lim : Nat) (h : l.length < lim) : Builtin.Str.partsBetween (S l) (Builtin.Str.occurrences (S l) (S [c]) 0 (S l).length lim) 1 = (spl c l).map S := by
  rw [StrLaws.partsBetween_eq, occ_all l c lim h, parts_spl l c l 0 0 (Nat.le_refl _) rfl (by simp)]
  obtain ⟨p, ps, e⟩ := spl_ne c l
  rw [e]
  simp
end L2
namespace L2
open PySem PySem.Spec PyProof.Rows
noncomputable def TokIn (X : Cx) (x : Str) (s : Shared) : Prop := ∃ m z t, s.heap.Ns X.env.locals m /\ m x = some (.str z t) /\ t ≠ 0 /\ t < s.toks
theorem ns_same {h : Heap} {a : Addr} {m m' : Str -> Option Value} (h1 : h.Ns a m) (h2 : h.Ns a m') (x : Str) : m x = m' x := by
  obtain ⟨o, es, ep, e1, d1, _, f1⟩ := h1
  obtain ⟨o', es', ep', e2, d2, _, f2⟩ := h2
  rw [e1] at e2; cases e2
  rw [d1] at d2; cases d2
  exact (f1 x).symm.trans (f2 x)
section
variable {X : Cx}
theorem name0 {pins : List (Addr × Obj)} {s : Shared} {σ : St} {H : Hp} {i : Nat} {x : Str} {pos : Pos} {v : V} (I : Inv X pins σ H s) (hN : X.N[i]? = some x) (hv : Vis X.env.scope x) (e : σ[i]? = some (some v))
    (hd : (x == ("__debug__" : Str)) = false := by decide) (hcd : (x == ("__classdict__" : Str)) = false := by decide) :
    wpAny (model X.prog X.w) X.A (eval (.Name x pos) X.env) (fun u s' => s' = s /\ RelV v u /\ (X.env.kindOf x = some .local -> ∀ m, s.heap.Ns X.env.locals m -> m x = some u)) X.xe s := by
  obtain ⟨m, hn, hl⟩ := I.loc
  obtain ⟨u, r, l⟩ := hl i x v hN e hv
  rcases l with ⟨hk, hm⟩ | ⟨hk, c, hc, hcell⟩
  · exact wpAny_Name (wpAny_loadName_local I.ok.kind hk hn hm ⟨rfl, r, fun _ m' hn' => (ns_same hn' hn x).trans hm⟩) hd
  · rcases hk with hk | hk
    · exact wpAny_Name (wpAny_loadName_cell I.ok.kind hk hc hcell ⟨rfl, r, fun z => by rw [hk] at z; cases z⟩) hd
    · exact wpAny_Name (wpAny_loadName_free I.ok.kind hk hc hcell ⟨rfl, r, fun z => by rw [hk] at z; cases z⟩ hcd) hd
end
end L2
namespace L2
open PySem PySem.Spec PyProof.Rows
theorem thnT {α : Type} {t : Sem α} {Q Q' : α -> Shared -> Prop} {M : Model} {A : Around} {E : Value -> Shared -> Prop} {s : Shared} (h : wpAny M A t Q E s) (hQ : ∀ a s', s.toks <= s'.toks /\ Q a s' -> Q' a s') : wpAny M A t Q' E s := wpAny_mono (wpAny_toks h) hQ fun _ _ x => x.2
structure TurnT (P : Program) (w : World) (K : PySem.W.Frag) (tg : Expr) (J : It) (fp : List Addr) (it : Addr) (tn : Nat -> Heap -> Prop) : Prop extends Turn P w K tg J fp it tn where
  itemT : ∀ (X : Cx), X.prog = P -> X.w = w -> X.K = K -> X.calm = true -> ∀ (i : Nat) (pins : List (Addr × Obj)) (s : Shared) (σ : St) (H : Hp) (E : Value -> Shared -> Prop), Inv X pins σ H s -> (∀ b ∈ fp, FpOk X pins H b) -> tn i s.heap -> J.go i H ->
    wpAny (model P w) X.A (pyNext (.ref it)) (fun r s1 => ∃ u, r = some u /\ (∃ z, u = .str z s.toks) /\ s1.toks = s.toks + 1 /\
      wpAny (model P w) X.A (letOwnedTupleGo tg (.ref it) u) (fun _ s2 => ∃ x H', Inv X pins σ H' s2 /\ RelV x u /\ J.yld i H x H' /\ tn (i + 1) s2.heap /\ ∀ b ∈ fp, H' b = none) E s1) E s
theorem turn_strT {P : Program} {w : World} {K : PySem.W.Frag} {tg : Expr} (it : Addr) (l : List Nat) (t : Tok) : TurnT P w K tg (Itx (sgs l)) [it] it (fun i h => h.IsStrIter it (strIterType (S l)) (S l) t i) where
  toTurn := turn_str it l t
  itemT := by
    intro X hP hw hK hc i pins s σ H E I hf st hg
    have base := (turn_str (P := P) (w := w) (K := K) (tg := tg) it l t).item X hP hw hK hc i pins s σ H E I hf st hg
    have hg' : i < l.length := by have : i < (sgs l).length := hg; rwa [sgs_len] at this
    have hx : (S l).cps[i]? = some l[i] := by simp [S, hg']
    have raw : wpAny (model P w) X.A (pyNext (.ref it)) (fun r s1 => (∃ z, r = some (.str z s.toks)) /\ s1.toks = s.toks + 1) E s := by
      by_cases ha : (S l).cps.all (· < 128) = true
      · have et : strIterType (S l) = "str_ascii_iterator" := by unfold strIterType; rw [if_pos ha]
        rw [et] at st
        exact wpAny_pyNext_ascii_item st hx fun h' _ _ => ⟨⟨_, rfl⟩, rfl⟩
      · have et : strIterType (S l) = "str_iterator" := by unfold strIterType; rw [if_neg ha]
        rw [et] at st
        exact wpAny_pyNext_wide_item st hx fun h' _ _ => ⟨⟨_, rfl⟩, rfl⟩
    refine wpAny_mono (wpAny_and base raw) (fun r s1 ⟨⟨u, hr, h1⟩, ⟨z, hz⟩, hk⟩ => ?_) fun _ _ z => z.1
    subst hr
    exact ⟨u, rfl, ⟨z, Option.some.inj hz⟩, hk, h1⟩
end L2
namespace L2
open PySem PySem.Spec PyProof.Rows
section
variable {X : Cx}
end
end L2
set_option maxHeartbeats 1000000
namespace L2.F3
open PySem PySem.Spec PyProof.Rows
end L2.F3
namespace L2
open PySem PySem.Spec PyProof.Rows
section
variable {prog : Program} {w : World} {A : Around} {E : Value -> Shared -> Prop} {s : Shared}
end
section
variable {X : Cx}
end
section
variable {P : Program} {w : World} {K : PySem.W.Frag} {mg : Str -> Option Value} {base : Heap}
end
end L2
namespace L2
open PySem PySem.Spec PyProof.Rows
noncomputable def joinc (c : Nat) : List (List Nat) -> List Nat
  | [] => []
  | [p] => p
  | p :: q :: r => p ++ c :: joinc c (q :: r)
theorem glued_S (c : Nat) : ∀ (ps : List (List Nat)), Builtin.Str.glued (S [c]) (ps.map S) = S (joinc c ps)
  | [] => rfl
  | [p] => rfl
  | p :: q :: r => by
    have ih := glued_S c (q :: r)
    rw [StrLaws.glued_eq_join] at ih ⊢
    show S p ++ S [c] ++ Str.join (S [c]) ((q :: r).map S) = _
    rw [ih, S_app, S_app, List.append_assoc]
    rfl
section
variable {X : Cx}
end
end L2
namespace L2
open PySem PySem.Spec PyProof.Rows
structure ZT (P : Program) (w : World) (K : PySem.W.Frag) (fp : List Addr) (it : Addr) (Sq : Hp -> List V -> Prop) (IT : Nat -> Heap -> Prop) : Prop where
  obj : ∀ i h, IT i h -> ∃ o, h.get? it = some o /\ ∀ v, o.data ≠ .cell v
  keep : ∀ i h h', IT i h -> (∀ o, h.get? it = some o -> h'.get? it = some o) -> IT i h'
  inj : ∀ (X : Cx), X.K = K -> ∀ (pins : List (Addr × Obj)) (s : Shared) (σ : St) (H : Hp), Inv X pins σ H s -> ∀ xs ys, Sq H xs -> Sq H ys -> xs = ys
  draws : ∀ (X : Cx), X.prog = P -> X.w = w -> X.K = K -> X.calm = true -> ∀ (pins : List (Addr × Obj)) (s : Shared) (σ : St) (H : Hp), Inv X pins σ H s -> ∀ xs, Sq H xs ->
    ∃ (PP : Nat -> Value -> Prop) (SS : Nat -> Heap -> Prop), (∀ i x v, xs[i]? = some x -> PP i v -> RelV x v) /\ Draws P w X.A.in1 it fp xs.length PP SS /\ (∀ i, IT i s.heap -> SS i s.heap) /\ ∀ i h, SS i h -> IT i h
section
variable {X : Cx} {elts : List Expr} {k : Nat} {pos' : Pos} {a b : Expr} {ta : TA} {p pos : Pos}
end
end L2
set_option maxHeartbeats 1000000
namespace L2
open PySem PySem.Spec PyProof.Rows
section
variable {prog : Program} {w : World} {A : Around} {E : Value -> Shared -> Prop} {s : Shared} {KK : Type} [DecidableEq KK] {knd : PySem.KeyKind prog w KK}
end
section
variable {X : Cx}
end
end L2
namespace L2
open PySem PySem.Spec PyProof.Rows
section
variable {X : Cx}
end
end L2
set_option maxHeartbeats 4000000
namespace XL
open PySem PySem.Spec PySem.Calls PyProof.Rows PySem.W
section
variable {M : Model} {A : Around} {E : Value -> Shared -> Prop} {s : Shared} {base : Heap} {env env' : Env} {outer : List Env} {L e C : Addr} {dO : Option Addr}
end
end XL
set_option maxHeartbeats 4000000
namespace L2
open PySem PySem.Spec PyProof.Rows XL
section
variable {P : Program} {w : World} {K : PySem.W.Frag} {mg : Str -> Option Value} {base : Heap} {N : List Str} {qual : Str} {scope : Scope} {f : Addr} {cd : Value} {A : Around} {outer : List Env} {s : Shared} {H : Hp} {E : XK}
end
section
variable {X : Cx} {scope : Scope} {C : Addr} {Nc : List Str} {s0 : Shared} {H0 : Hp} {fp : List Addr} {pn pins : List (Addr × Obj)} {xe : Value -> Shared -> Prop} {σ : St} {H : Hp} {s : Shared}
end
end L2
set_option maxHeartbeats 1000000
namespace L2
open PySem PySem.Spec PyProof.Rows
section
variable {X : Cx}
end
end L2
namespace L2
open PySem PySem.Spec PyProof.Rows
section
variable {X : Cx}
end
end L2
namespace PySem
open Sem (wp)
section
variable {prog : Program} {w : World} {K : Type} [DecidableEq K] (knd : KeyKind prog w K)
noncomputable def IsPairKey (h : Heap) (p : K × List K) (a : Addr) : Prop := ∃ o v b n, h.get? a = some o /\ o.cls = .type "tuple" /\ o.data = .seq #[v, .ref b] n /\ knd.is p.1 v = true /\ IsTupleKey knd h p.2 b
variable {knd}
variable {A : Around} {E : Value -> Shared -> Prop} {s : Shared}
end
end PySem
namespace PySem
open Sem (wp)
namespace F
end F
section
variable {prog : Program} {w : World} {A : Around} {E : Value -> Shared -> Prop} {s : Shared}
end
section
variable {prog : Program} {w : World} {K : Type} [DecidableEq K] {knd : HeapKind prog w K} {A : Around} {E : Value -> Shared -> Prop} {s : Shared}
end
end PySem
namespace L2
open PySem PySem.Spec PyProof.Rows
noncomputable def KeyAt (H : Hp) (k : Key × List Key) (a : Addr) : Prop := ∃ b, H a = some (.tup [kV k.1, .ref b]) /\ H b = some (.tup (k.2.map kV))
section
variable {X : Cx} {o i : Expr} {pos : Pos} {td ty : TE}
structure PIt where
  t : Addr
  a : Addr
  k : Key × List Key
  n : Int
structure PItOk (H : Hp) (e : PIt) : Prop where
  tp : H e.t = some (.tup [.ref e.a, .int e.n])
  ky : KeyAt H e.k e.a
end
end L2
namespace L2.F2
open PySem PySem.Spec PyProof.Rows
end L2.F2
namespace L2
open PySem PySem.Spec PyProof.Rows
section
variable {prog : Program} {w : World} {A : Around} {E : Value -> Shared -> Prop} {s : Shared}
noncomputable def IsRevT (h : Heap) (it a : Addr) (i : Int) : Prop := ∃ o, h.get? it = some o /\ o.cls = .type "reversed" /\ o.data = .fields #[.ref a, rawInt i]
end
section
variable {X : Cx} {tg : Expr}
end
end L2
set_option maxHeartbeats 1000000
namespace L2
open PySem PySem.Spec PyProof.Rows
section
variable {X : Cx}
end
end L2
namespace L2
open PySem PySem.Spec PyProof.Rows PySem.W
section
noncomputable def Ev (lt : Nat -> Nat -> Bool) (n : Nat) {α : Type} : KasT α -> (α -> Prop) -> Prop
  | .ret a, Q => Q a
  | .ask i j k, Q => i < n /\ j < n /\ Ev lt n (k (lt i j)) Q
theorem Ev.bind {lt : Nat -> Nat -> Bool} {n : Nat} {α β : Type} {f : α -> KasT β} {Q : β -> Prop} : ∀ {t : KasT α}, Ev lt n t (fun a => Ev lt n (f a) Q) -> Ev lt n (t.bind f) Q
  | .ret _, h => h
  | .ask _ _ _, ⟨a, b, h⟩ => ⟨a, b, Ev.bind h⟩
theorem Ev.wp {lt : Nat -> Nat -> Bool} {n : Nat} {α : Type} {cmp : Nat -> Nat -> (Bool -> Shared -> Prop) -> Shared -> Prop} {s : Shared} (hc : ∀ i j, i < n -> j < n -> ∀ C : Bool -> Shared -> Prop, C (lt i j) s -> cmp i j C s) {Q : α -> Prop} {G : α -> Shared -> Prop} (hq : ∀ a, Q a -> G a s) : ∀ {t : KasT α}, Ev lt n t Q -> t.kasWp cmp G s
  | .ret a, h => hq a h
  | .ask i j k, ⟨a, b, h⟩ => hc i j a b _ (Ev.wp hc hq h)
structure Tot (lt : Nat -> Nat -> Bool) (n : Nat) : Prop where
  tr : ∀ a b c, lt b a = false -> lt c b = false -> lt c a = false
  sm : ∀ a b, lt a b = true -> lt b a = false
noncomputable def Pm (p : Array Nat) (n : Nat) : Prop := p.Perm (List.range n).toArray
theorem gd (p : Array Nat) (i : Nat) : p.getD i 0 = p[i]?.getD 0 := by simp [Array.getD_eq_getD_getElem?]
theorem Pm.size {p : Array Nat} {n : Nat} (h : Pm p n) : p.size = n := by have := h.size_eq; simpa using this
theorem Pm.lt {p : Array Nat} {n : Nat} (h : Pm p n) (hn : 0 < n) (i : Nat) : p.getD i 0 < n := by
  rw [gd]
  by_cases hi : i < p.size
  · rw [Array.getElem?_eq_getElem hi]
    have m : p[i] ∈ p := Array.getElem_mem hi
    have := h.mem_iff.mp m
    simpa using this
  · rw [Array.getElem?_eq_none (by omega)]; exact hn
theorem Tot.ir {lt : Nat -> Nat -> Bool} {n : Nat} (T : Tot lt n) (a : Nat) : lt a a = false := by
  cases h : lt a a with
  | false => rfl
  | true => rw [T.sm _ _ h] at h; cases h
section
variable {lt : Nat -> Nat -> Bool} {n : Nat}
noncomputable def UpTo (lt : Nat -> Nat -> Bool) (p : Array Nat) (k : Nat) : Prop := ∀ i j, i < j -> j < k -> lt (p.getD j 0) (p.getD i 0) = false
noncomputable def DnTo (lt : Nat -> Nat -> Bool) (p : Array Nat) (k : Nat) : Prop := ∀ i j, i < j -> j < k -> lt (p.getD i 0) (p.getD j 0) = false
theorem ev_asc (T : Tot lt n) (hn : 0 < n) {p : Array Nat} (hp : Pm p n) {Q : Nat -> Prop} : ∀ f m, 1 <= m -> UpTo lt p m -> (∀ m', m <= m' -> m' <= m + f -> UpTo lt p m' -> (m' < m + f -> lt (p.getD m' 0) (p.getD (m' - 1) 0) = true) -> Q m') -> Ev lt n (kas_asc p f m) Q
  | 0, m, _, up, q => q m (Nat.le_refl _) (Nat.le_refl _) up (fun h => absurd h (by omega))
  | f + 1, m, h1, up, q => by
    refine ⟨hp.lt hn _, hp.lt hn _, ?_⟩
    cases c : lt (p.getD m 0) (p.getD (m - 1) 0) with
    | true =>
      show Ev lt n (if true = true then _ else _) _
      rw [if_pos rfl]
      exact q m (Nat.le_refl _) (by omega) up (fun _ => c)
    | false =>
      show Ev lt n (if false = true then _ else _) _
      rw [if_neg Bool.false_ne_true]
      refine ev_asc T hn hp f (m + 1) (by omega) (fun i j hij hj => ?_) (fun m' a b u g => q m' (by omega) (by omega) u (fun z => g (by omega)))
      by_cases hjm : j < m
      · exact up i j hij hjm
      · have ejm : j = m := by omega
        subst ejm
        by_cases hi : i = j - 1
        · subst hi; exact c
        · exact T.tr _ _ _ (up i (j - 1) (by omega) (by omega)) c
noncomputable def EqTo (lt : Nat -> Nat -> Bool) (p : Array Nat) (a b : Nat) : Prop := ∀ i j, a <= i -> i < b -> a <= j -> j < b -> lt (p.getD i 0) (p.getD j 0) = false
theorem EqTo.one (T : Tot lt n) (p : Array Nat) (m : Nat) : EqTo lt p m (m + 1) := fun i j h1 h2 h3 h4 => by
  have e1 : i = m := by omega
  have e2 : j = m := by omega
  rw [e1, e2]; exact T.ir _
theorem rev_pm {p : Array Nat} (hp : Pm p n) (i j : Nat) : Pm (kas_rev p i j) n := (mirror_perm p i j _).trans hp
theorem rev_gen {p : Array Nat} {a m : Nat} (ha : a <= m) (hm : m <= p.size) (k : Nat) : (kas_rev p a m).getD k 0 = if a <= k /\ k < m then p.getD (a + m - 1 - k) 0 else p.getD k 0 := by
  rw [gd, gd, gd]
  unfold kas_rev
  rw [getElem?_mirror_all hm]
  by_cases h : a <= k /\ k < m
  · rw [if_pos h, if_pos h]
  · rw [if_neg h, if_neg h]
theorem dn_rev {p : Array Nat} {a m : Nat} (ha : a <= m) (hm : m <= p.size) (dn : DnTo lt p m) (eq : EqTo lt p a m) : DnTo lt (kas_rev p a m) m := fun i j hij hj => by
  rw [rev_gen ha hm, rev_gen ha hm]
  by_cases h1 : a <= i
  · rw [if_pos ⟨h1, by omega⟩, if_pos ⟨by omega, hj⟩]
    exact eq _ _ (by omega) (by omega) (by omega) (by omega)
  · rw [if_neg (fun z => h1 z.1)]
    by_cases h2 : a <= j
    · rw [if_pos ⟨h2, hj⟩]; exact dn _ _ (by omega) (by omega)
    · rw [if_neg (fun z => h2 z.1)]; exact dn _ _ hij hj
theorem dn_more (T : Tot lt n) {p : Array Nat} {m : Nat} (h1 : 1 <= m) (dn : DnTo lt p m) (c : lt (p.getD (m - 1) 0) (p.getD m 0) = false) : DnTo lt p (m + 1) := fun i j hij hj => by
  by_cases hjm : j < m
  · exact dn i j hij hjm
  · have ejm : j = m := by omega
    subst ejm
    by_cases hi : i = j - 1
    · subst hi; exact c
    · exact T.tr _ _ _ c (dn i (j - 1) (by omega) (by omega))
theorem ev_desc (T : Tot lt n) (hn : 0 < n) {Q : Array Nat × Nat × Nat -> Prop} : ∀ f (p : Array Nat) m q, Pm p n -> q + 1 <= m -> m + f <= n -> DnTo lt p m -> EqTo lt p (m - (q + 1)) m -> (∀ p' m' q', m <= m' -> m' <= m + f -> Pm p' n -> q' + 1 <= m' -> DnTo lt p' m' -> EqTo lt p' (m' - (q' + 1)) m' -> Q (p', m', q')) -> Ev lt n (kas_desc f p m q) Q
  | 0, p, m, q, hp, hq, _, dn, eq, k => k p m q (Nat.le_refl _) (Nat.le_refl _) hp hq dn eq
  | f + 1, p, m, q, hp, hq, hf, dn, eq, k => by
    have hs := hp.size
    refine ⟨hp.lt hn _, hp.lt hn _, ?_⟩
    cases c : lt (p.getD m 0) (p.getD (m - 1) 0) with
    | true =>
      have c2 := T.sm _ _ c
      show Ev lt n (if true = true then _ else _) _
      rw [if_pos rfl]
      have one : ∀ p' : Array Nat, EqTo lt p' (m + 1 - (0 + 1)) (m + 1) := fun p' => EqTo.one T p' m
      by_cases h : q > 0
      · rw [if_pos h]
        have d2 := dn_rev (a := m - (q + 1)) (by omega) (by omega) dn eq
        refine ev_desc T hn f _ (m + 1) 0 (rev_pm hp _ _) (by omega) (by omega) (dn_more T (by omega) d2 ?_) (one _) (fun p' m' q' a b => k p' m' q' (by omega) (by omega))
        rw [rev_gen (by omega) (by omega), rev_gen (by omega) (by omega), if_pos ⟨by omega, by omega⟩, if_neg (by omega)]
        by_cases e : m - (q + 1) + m - 1 - (m - 1) = m - 1
        · rw [e]; exact c2
        · exact T.tr _ _ _ c2 (dn _ _ (by omega) (by omega))
      · rw [if_neg h]
        exact ev_desc T hn f p (m + 1) 0 hp (by omega) (by omega) (dn_more T (by omega) dn c2) (one _) (fun p' m' q' a b => k p' m' q' (by omega) (by omega))
    | false =>
      show Ev lt n (if false = true then _ else _) _
      rw [if_neg Bool.false_ne_true]
      refine ⟨hp.lt hn _, hp.lt hn _, ?_⟩
      cases d : lt (p.getD (m - 1) 0) (p.getD m 0) with
      | true =>
        show Ev lt n (if true = true then _ else _) _
        rw [if_pos rfl]
        exact k p m q (Nat.le_refl _) (by omega) hp hq dn eq
      | false =>
        show Ev lt n (if false = true then _ else _) _
        rw [if_neg Bool.false_ne_true]
        refine ev_desc T hn f p (m + 1) (q + 1) hp (by omega) (by omega) (dn_more T (by omega) dn d) (fun i j h1 h2 h3 h4 => ?_) (fun p' m' q' a b => k p' m' q' (by omega) (by omega))
        have up : ∀ i, m - (q + 1) <= i -> i < m -> lt (p.getD i 0) (p.getD m 0) = false /\ lt (p.getD m 0) (p.getD i 0) = false := fun i g1 g2 => ⟨T.tr _ _ _ d (eq i (m - 1) g1 g2 (by omega) (by omega)), T.tr _ _ _ (eq (m - 1) i (by omega) (by omega) g1 g2) c⟩
        by_cases g1 : i < m
        · by_cases g2 : j < m
          · exact eq i j (by omega) g1 (by omega) g2
          · rw [show j = m by omega]; exact (up i (by omega) g1).1
        · rw [show i = m by omega]
          by_cases g2 : j < m
          · exact (up j (by omega) g2).2
          · rw [show j = m by omega]; exact T.ir _
theorem ev_tail3 (T : Tot lt n) (hn : 0 < n) {p : Array Nat} (hp : Pm p n) {m : Nat} (h1 : 1 <= m) (hm : m <= n) (dn : DnTo lt p m) {Q : Nat × Array Nat -> Prop} (q : ∀ m' p', 1 <= m' -> m' <= n -> Pm p' n -> UpTo lt p' m' -> Q (m', p')) : Ev lt n (kas_tail3 m n p) Q := by
  refine Ev.bind (ev_asc T hn (rev_pm hp 0 m) (n - m) m h1 (fun i j hij hj => ?_) (fun m' a b u _ => q m' _ (by omega) (by omega) (rev_pm hp 0 m) u))
  have hs := hp.size
  rw [rev_gen (Nat.zero_le _) (by omega), rev_gen (Nat.zero_le _) (by omega), if_pos ⟨Nat.zero_le _, hj⟩, if_pos ⟨Nat.zero_le _, by omega⟩]
  exact dn _ _ (by omega) (by omega)
theorem ev_part (T : Tot lt n) (hn : 0 < n) {p : Array Nat} (hp : Pm p n) {m : Nat} (hm : m + 1 <= n) (dn : DnTo lt p (m + 1)) {Q : Nat × Array Nat -> Prop} (q : ∀ m' p', 1 <= m' -> m' <= n -> Pm p' n -> UpTo lt p' m' -> Q (m', p')) : Ev lt n (kas_descPart m n p) Q := by
  refine Ev.bind (ev_desc T hn (n - (m + 1)) p (m + 1) 0 hp (by omega) (by omega) dn (EqTo.one T p m) (fun p' m' q' a b hp' hq' dn' eq' => ?_))
  have hs := hp'.size
  show Ev lt n (if q' > 0 then kas_tail3 m' n (kas_rev p' (m' - (q' + 1)) m') else kas_tail3 m' n p') Q
  by_cases h : q' > 0
  · rw [if_pos h]
    exact ev_tail3 T hn (rev_pm hp' _ _) (by omega) (by omega) (dn_rev (by omega) (by omega) dn' eq') q
  · rw [if_neg h]
    exact ev_tail3 T hn hp' (by omega) (by omega) dn' q
theorem ev_count (T : Tot lt n) (hn : 0 < n) {p : Array Nat} (hp : Pm p n) {Q : Nat × Array Nat -> Prop} (q : ∀ m' p', 1 <= m' -> m' <= n -> Pm p' n -> UpTo lt p' m' -> Q (m', p')) : Ev lt n (kas_count n p) Q := by
  have hs := hp.size
  refine Ev.bind (ev_asc T hn hp (n - 1) 1 (Nat.le_refl _) (fun i j hij hj => absurd hj (by omega)) (fun m a b u g => ?_))
  by_cases e : m = n
  · rw [if_pos (by simpa using e)]
    exact q m p a (by omega) hp u
  · rw [if_neg (by simpa using e)]
    have hlt := T.sm _ _ (g (by omega))
    by_cases h1 : m > 1
    · rw [if_pos h1]
      refine ⟨hp.lt hn _, hp.lt hn _, ?_⟩
      cases c : lt (p.getD 0 0) (p.getD (m - 1) 0) with
      | true =>
        show Ev lt n (if true = true then _ else _) _
        rw [if_pos rfl]
        exact q m p a (by omega) hp u
      | false =>
        show Ev lt n (if false = true then _ else _) _
        rw [if_neg Bool.false_ne_true]
        have lo : ∀ i, i < m -> lt (p.getD i 0) (p.getD 0 0) = false := fun i hi => by
          by_cases z : i = 0
          · rw [z]; exact T.ir _
          · exact u 0 i (by omega) hi
        have hi' : ∀ j, j < m -> lt (p.getD (m - 1) 0) (p.getD j 0) = false := fun j hj => by
          by_cases z : j = m - 1
          · rw [z]; exact T.ir _
          · exact u j (m - 1) (by omega) (by omega)
        have eq : EqTo lt p 0 m := fun i j _ h2 _ h4 => T.tr _ _ _ (T.tr _ _ _ (hi' j h4) c) (lo i h2)
        have d2 : DnTo lt (kas_rev p 0 m) m := dn_rev (Nat.zero_le _) (by omega) (fun i j hij hj => eq i j (Nat.zero_le _) (by omega) (Nat.zero_le _) hj) eq
        refine ev_part T hn (rev_pm hp 0 m) (by omega) (dn_more T (by omega) d2 ?_) q
        rw [rev_gen (Nat.zero_le _) (by omega), rev_gen (Nat.zero_le _) (by omega), if_pos ⟨Nat.zero_le _, by omega⟩, if_neg (by omega)]
        exact T.tr _ _ _ hlt (eq _ _ (Nat.zero_le _) (by omega) (Nat.zero_le _) (by omega))
    · rw [if_neg h1]
      have em : m = 1 := by omega
      subst em
      exact ev_part T hn hp (by omega) (dn_more T (Nat.le_refl _) (fun i j hij hj => absurd hj (by omega)) hlt) q
theorem ev_place (T : Tot lt n) (hn : 0 < n) {p : Array Nat} (hp : Pm p n) {k : Nat} (up : UpTo lt p k) {Q : Nat -> Prop} : ∀ f l r, l <= r -> r <= k -> r - l <= f -> (∀ i, i < l -> lt (p.getD k 0) (p.getD i 0) = false) -> (∀ i, r <= i -> i < k -> lt (p.getD i 0) (p.getD k 0) = false) -> (∀ l', l' <= k -> (∀ i, i < l' -> lt (p.getD k 0) (p.getD i 0) = false) -> (∀ i, l' <= i -> i < k -> lt (p.getD i 0) (p.getD k 0) = false) -> Q l') -> Ev lt n (kas_place p k f l r) Q
  | 0, l, r, h1, h2, hf, a, b, q => q l (by omega) a (fun i hi hk => b i (by omega) hk)
  | f + 1, l, r, h1, h2, hf, a, b, q => by
    unfold kas_place
    by_cases e : l ≥ r
    · rw [if_pos e]
      exact q l (by omega) a (fun i hi hk => b i (by omega) hk)
    · rw [if_neg e]
      refine ⟨hp.lt hn _, hp.lt hn _, ?_⟩
      cases c : lt (p.getD k 0) (p.getD ((l + r) / 2) 0) with
      | true =>
        show Ev lt n (if true = true then _ else _) _
        rw [if_pos rfl]
        refine ev_place T hn hp up f l _ (by omega) (by omega) (by omega) a (fun i hi hk => ?_) q
        have c2 := T.sm _ _ c
        by_cases ei : i = (l + r) / 2
        · rw [ei]; exact c2
        · exact T.tr _ _ _ c2 (up ((l + r) / 2) i (by omega) hk)
      | false =>
        show Ev lt n (if false = true then _ else _) _
        rw [if_neg Bool.false_ne_true]
        refine ev_place T hn hp up f _ r (by omega) h2 (by omega) (fun i hi => ?_) b q
        by_cases ei : i = (l + r) / 2
        · rw [ei]; exact c
        · exact T.tr _ _ _ (up i ((l + r) / 2) (by omega) (by omega)) c
theorem bub_get {p : Array Nat} {k l : Nat} (hk : k < p.size) (hl : l <= k) (i : Nat) : (bubble p k (k - l)).getD i 0 = if i = l then p.getD k 0 else if l < i /\ i <= k then p.getD (i - 1) 0 else p.getD i 0 := by
  rw [gd, getElem?_bubble hk _ (by omega), gd, gd, gd]
  have e : k - (k - l) = l := by omega
  rw [e]
  repeat' split
  all_goals rfl
theorem ev_bin (T : Tot lt n) (hn : 0 < n) {Q : Array Nat -> Prop} : ∀ f (p : Array Nat) k, Pm p n -> UpTo lt p k -> k + f <= n -> (∀ p', Pm p' n -> UpTo lt p' (k + f) -> Q p') -> Ev lt n (kas_bin f p k) Q
  | 0, p, k, hp, up, _, q => q p hp up
  | f + 1, p, k, hp, up, hk, q => by
    refine Ev.bind (ev_place T hn hp up k 0 k (Nat.zero_le _) (Nat.le_refl _) (by omega) (fun i h => absurd h (Nat.not_lt_zero _)) (fun i h1 h2 => absurd h1 (by omega)) (fun l hl a b => ?_))
    have hs := hp.size
    refine ev_bin T hn f _ (k + 1) ((bubble_perm p k _).trans hp) (fun i j hij hj => ?_) (by omega) (fun p' g u => q p' g (by rwa [show k + (f + 1) = k + 1 + f by omega]))
    rw [bub_get (by omega) hl, bub_get (by omega) hl]
    by_cases ej : j = l
    · rw [if_pos ej, if_neg (by omega), if_neg (by omega)]
      exact a i (by omega)
    · rw [if_neg ej]
      by_cases hjl : l < j
      · rw [if_pos ⟨hjl, by omega⟩]
        by_cases ei : i = l
        · rw [if_pos ei]; exact b (j - 1) (by omega) (by omega)
        · rw [if_neg ei]
          by_cases hil : l < i
          · rw [if_pos ⟨hil, by omega⟩]; exact up _ _ (by omega) (by omega)
          · rw [if_neg (by omega)]; exact up _ _ (by omega) (by omega)
      · rw [if_neg (by omega), if_neg (by omega), if_neg (by omega)]
        exact up _ _ hij (by omega)
theorem ev_sort (T : Tot lt n) (hn : 0 < n) : Ev lt n (kas_sort n) (fun p => Pm p n /\ UpTo lt p n) := by
  refine Ev.bind (ev_count T hn (Array.Perm.refl _) (fun m p h1 h2 hp up => ?_))
  have em : max m 1 = m := by omega
  show Ev lt n (if m < n then kas_bin (n - max m 1) p (max m 1) else .ret p) _
  rw [em]
  by_cases h : m < n
  · rw [if_pos h]
    refine ev_bin T hn _ p m hp up (by omega) (fun p' g u => ⟨g, ?_⟩)
    rwa [show m + (n - m) = n by omega] at u
  · rw [if_neg h]
    exact ⟨hp, by rwa [show m = n by omega] at up⟩
end
end
theorem pairLt_tr {a b c : Int × Int} (h1 : pairLt b a = false) (h2 : pairLt c b = false) : pairLt c a = false := by
  unfold pairLt at *
  simp only [Bool.or_eq_false_iff, Bool.and_eq_false_iff, decide_eq_false_iff_not] at *
  omega
theorem pairLt_sm {a b : Int × Int} (h : pairLt a b = true) : pairLt b a = false := by
  unfold pairLt at *
  simp only [Bool.or_eq_false_iff, Bool.and_eq_false_iff, decide_eq_false_iff_not, Bool.or_eq_true, Bool.and_eq_true, decide_eq_true_eq] at *
  omega
noncomputable def ltN (ns : List (Int × Int)) (i j : Nat) : Bool := pairLt (ns.getD i (0, 0)) (ns.getD j (0, 0))
theorem tot_ltN (ns : List (Int × Int)) (n : Nat) : Tot (ltN ns) n where
  tr _ _ _ h1 h2 := pairLt_tr h1 h2
  sm _ _ h := pairLt_sm h
section
variable {prog : Program} {w : World} {A : Around} {E : Value -> Shared -> Prop} {s : Shared}
theorem PairsAt.len {h : Heap} : ∀ {vs : List Value} {ns : List (Int × Int)}, PairsAt h vs ns -> ns.length = vs.length
  | [], [], _ => rfl
  | _ :: _, _ :: _, ⟨_, b⟩ => by rw [List.length_cons, List.length_cons, PairsAt.len b]
  | [], _ :: _, h => h.elim
  | _ :: _, [], h => h.elim
noncomputable def idxOut (vs : List Value) (idx : List Nat) : Array Value := List.toArray (idx.map fun i => vs.getD i Value.none)
noncomputable def IdxOk (ns : List (Int × Int)) (idx : List Nat) : Prop := idx.Perm (List.range ns.length) /\ (idx.map fun i => ns.getD i (0, 0)).Pairwise fun x y => pairLt y x = false
theorem list_sort_any {a : Addr} {vs : List Value} {ns : List (Int × Int)} {n : Nat} {P : PySem.Fin -> Shared -> Prop} (ho : s.heap.get? a = some (seqObj "list" vs.toArray n)) (hp : PairsAt s.heap vs ns) (hna : ∀ v ∈ vs, v ≠ .ref a) (h64 : vs.length < 64)
    (q : ∀ idx, IdxOk ns idx -> P (.done (.ret .none)) { s with heap := sortedHeap s.heap a vs (idxOut vs idx) }) : wpAny (model prog w) A (Builtin.«list.sort» ⟨[.ref a], []⟩) P E s := by
  rw [list_sort_plain]
  have ha : a < s.heap.objs.size := Heap.lt_size ho
  have hline : (64 : Nat) < sizeLine := by decide
  have hlen := hp.len
  refine wpAny_bind (listItems_at ho rfl (wpAny_bind (listUpdate_at ho rfl ?_ (by rw [List.size_toArray]; omega) (Nat.zero_le _))))
  obtain ⟨e1, ho1⟩ : ∃ e1, (s.heap.update a (Obj.mapSeq fun _ => #[])).get? a = some (seqObj "list" #[] e1) := ⟨_, get?_update_seq ho (fun _ => #[])⟩
  refine wpAny_bind (seqEpoch_at ho1 rfl (wpAny_bind (wpAny_newTuple (wpAny_bind (wpAny_newList (wpAny_holding ?_) (Nat.zero_le _))) (by show vs.length <= _; omega))))
  generalize hH : ((s.heap.update a (Obj.mapSeq fun _ => (#[] : Array Value))).push (seqObj "tuple" vs.toArray 0)).push (seqObj "list" #[] 0) = H2
  have ho6 : H2.get? a = some (seqObj "list" #[] e1) := by
    rw [<- hH]
    exact Heap.get?_push_of_some _ (Heap.get?_push_of_some _ ho1)
  have keep : ∀ b o, b ≠ a -> s.heap.get? b = some o -> H2.get? b = some o := fun b o hb e => by
    rw [<- hH]
    exact Heap.get?_push_of_some _ (Heap.get?_push_of_some _ ((Heap.get?_update_other s.heap _ (Ne.symm hb)).trans e))
  have hp2 : PairsAt H2 vs ns := by
    clear q h64 hH ho hlen
    revert ns
    induction vs with
    | nil => intro ns hp; cases ns with
      | nil => trivial
      | cons _ _ => exact hp.elim
    | cons v vs ih =>
      intro ns hp
      cases ns with
      | nil => exact hp.elim
      | cons n ns =>
        obtain ⟨⟨x, ox, t1, t2, m, rfl, g2, g3⟩, b⟩ := hp
        exact ⟨⟨x, ox, t1, t2, m, rfl, keep x ox (fun z => hna _ List.mem_cons_self (by rw [z])) g2, g3⟩, ih (fun u hu => hna u (List.mem_cons_of_mem _ hu)) b⟩
  have fin : ∀ (st : SortSt) (idx : List Nat), IdxOk ns idx -> (arrOf st).map (·.2) = idxOut vs idx -> failedOf st = none -> wpAny (model prog w) A (do { let touched := (<- seqEpoch a) != e1; Builtin.List.listUpdate (.ref a) (fun _ => (arrOf st).map (·.2)); if let some e := failedOf st then { rule "list.sort.comparison-raised"; throw e }; if touched then { rule "list.sort.modified"; raiseError "ValueError" "list modified during sort" }; ret .none }) P E { s with heap := H2 } := fun st idx hi e0 e2 => by
    rw [e0, e2]
    have hil : idx.length = vs.length := by have := hi.1.length_eq; rw [List.length_range] at this; omega
    refine wpAny_bind (seqEpoch_at ho6 rfl (wpAny_bind (listUpdate_at ho6 rfl ?_ (Nat.zero_le _) (by unfold idxOut; rw [List.size_toArray, List.length_map]; omega))))
    simp only [bne_self_eq_false, Bool.false_eq_true, if_false]
    refine wpAny_pure ?_
    have e3 : sortedHeap s.heap a vs (idxOut vs idx) = H2.update a (Obj.mapSeq fun _ => idxOut vs idx) := by unfold sortedHeap; rw [hH]
    have q := q idx hi
    rw [e3] at q
    exact q
  show wpAny (model prog w) A _ P E { s with heap := H2 }
  dsimp only
  by_cases h2 : vs.toArray.size < 2
  · rw [if_pos h2, if_pos h2]
    refine wpAny_bind (wpAny_pure ?_)
    rw [StateT.run_pure]
    refine wpAny_bind (wpAny_pure ?_)
    rw [List.size_toArray] at h2
    refine fin (SortSt.mk' general' (vs.toArray.zip vs.toArray) #[] 7 none) (List.range ns.length) ⟨List.Perm.refl _, ?_⟩ ?_ rfl
    · rw [hlen]
      have : vs.length = 0 \/ vs.length = 1 := by omega
      rcases this with e | e <;> rw [e] <;> simp [List.range_succ]
    · show (vs.toArray.zip vs.toArray).map (·.2) = _
      apply Array.toList_inj.mp
      have e4 : (vs.zip vs).map (fun x => x.2) = vs := zip_snd vs
      unfold idxOut
      simp
      rw [e4, hlen]
      refine List.ext_getElem (by simp) fun i g1 g2 => ?_
      simp
      rw [List.getElem?_eq_getElem g1]
      rfl
  · have h2' : 2 <= vs.length := by rw [List.size_toArray] at h2; omega
    rw [if_neg h2, if_neg h2]
    obtain ⟨fs, k1, k2, k3⟩ := hp2.tups
    refine wpAny_bind (PySem.W.kat_kind (s := { s with heap := H2 }) (T := .type "int") k1 (by omega) (fun v hv => by obtain ⟨i, t, rfl⟩ := k3 v hv; exact PySem.W.Looks.of_pure rfl) (by rfl) ?_)
    have T := tot_ltN ns vs.length
    refine wpAny_bind (wpAny_mono (PySem.W.kat_run (Q := fun st' s' => s' = { s with heap := H2 } /\ ∃ idx, IdxOk ns idx /\ (arrOf st').map (·.2) = idxOut vs idx /\ failedOf st' = none) (G := fun p s' => s' = { s with heap := H2 } /\ Pm p vs.length /\ UpTo (ltN ns) p vs.length) rfl h2' h64 (fun p st' s' a1 a2 a3 a4 => ?_) (Ev.wp (fun i j hi hj C c => ?_) (fun p hq => ⟨rfl, hq⟩) (ev_sort T (by omega)))) ?_ fun _ _ e => e)
    · obtain ⟨rfl, pm, up⟩ := a4
      refine ⟨rfl, p.toList, ⟨?_, ?_⟩, PySem.W.kat_snds rfl a2, a3⟩
      · rw [hlen]
        simpa using Array.perm_iff_toList_perm.mp pm
      · rw [List.pairwise_map, List.pairwise_iff_getElem]
        intro i j hi hj hij
        have := up i j hij (by rw [<- pm.size]; simpa using hj)
        rw [gd, gd, Array.getElem?_eq_getElem (by simpa using hj), Array.getElem?_eq_getElem (by simpa using hi)] at this
        simpa [ltN] using this
    · obtain ⟨x, ex, px⟩ := hp2.get (i := i) hi
      obtain ⟨y, ey, py⟩ := hp2.get (i := j) hj
      refine pair_lt (s := { s with heap := H2 }) px py ?_
      have : ltN ns i j = pairLt x y := by unfold ltN; rw [List.getD_eq_getElem?_getD, List.getD_eq_getElem?_getD, ex, ey]; rfl
      rw [<- this]
      exact c
    · rintro ⟨⟨⟩, st'⟩ s' ⟨rfl, idx, g0, g1, g2⟩
      exact fin st' idx g0 g1 g2
theorem sorted_any {tp : Addr} {T : String} {o : Obj} {vs : List Value} {ns : List (Int × Int)} {n : Nat} {Q : Value -> Shared -> Prop} (hT : T = "list" \/ T = "tuple") (ho : s.heap.get? tp = some o) (hc : o.cls = .type T) (hd : o.data = .seq vs.toArray n) (hp : PairsAt s.heap vs ns)
    (h64 : vs.length < 64)
    (q : ∀ (h1 h' : Heap) (a : Addr) (e : Nat) (idx : List Nat), IdxOk ns idx -> (∀ b o, s.heap.get? b = some o -> h1.get? b = some o) -> (∀ b o, h1.get? b = some o -> h'.get? b = some o) -> a = h1.objs.size -> h'.get? a = some (seqObj "list" (idxOut vs idx) e) -> Q (.ref a) { s with heap := h' }) :
    wpAny (model prog w) A (call (.builtin "sorted") [.ref tp]) Q E s := by
  have hline : (64 : Nat) < sizeLine := by decide
  refine Calls.call_function_entry kind_sorted plain_sorted entry_sorted (args_sorted1 _) ?_
  unfold Builtin.«sorted»
  refine wpAny_bind (m := checkCount "sorted" 1 1 _) (wpAny_pure (wpAny_bind (wpAny_collect_seq tp hT ho hc hd (fun h1 k1 => ?_) (by rw [List.size_toArray]; omega))))
  refine wpAny_bind (wpAny_newList ?_ (by show vs.length <= _; omega))
  have hoL : (h1.push (seqObj "list" vs.toArray 0)).get? h1.objs.size = some (seqObj "list" vs.toArray 0) := Heap.get?_push_size _ rfl
  show wpAny _ _ _ _ _ { s with heap := h1.push (seqObj "list" vs.toArray 0) }
  have hp1 := hp.keep (h' := h1) k1
  have hp2 := hp1.keep (h' := h1.push (seqObj "list" vs.toArray 0)) fun b o e => Heap.get?_push_of_some _ e
  refine wpAny_bind (wpAny_holding (wpAny_call_entry slot_list_sort ⟨_, hoL, rfl⟩ entry_list_sort (list_sort_any (s := { s with heap := h1.push (seqObj "list" vs.toArray 0) }) hoL hp2 (hp1.ne (Nat.le_refl _)) h64 fun idx hi => ⟨_, rfl, ?_⟩) (args_list_sort _)))
  obtain ⟨e, he⟩ := sortedHeap_at (out := idxOut vs idx) hoL
  refine wpAny_pure ⟨_, rfl, q h1 _ _ e idx hi k1 (fun b o hb => ?_) rfl he⟩
  have hlt := Heap.lt_size hb
  rw [sortedHeap_old (Nat.ne_of_lt hlt) (by rw [size_push']; exact Nat.lt_succ_of_lt hlt)]
  exact Heap.get?_push_of_some _ hb
end
section
variable {X : Cx}
theorem PrsV.len {K : PySem.W.Frag} {H : Hp} : ∀ {vs : List V} {ns : List (Int × Int)}, PrsV K H vs ns -> ns.length = vs.length
  | [], [], _ => rfl
  | _ :: _, _ :: _, ⟨_, b⟩ => by rw [List.length_cons, List.length_cons, PrsV.len b]
  | [], _ :: _, h => h.elim
  | _ :: _, [], h => h.elim
theorem vals_idx {ys : List V} {us : List Value} (r : Vals ys us) : ∀ idx : List Nat, (∀ i ∈ idx, i < ys.length) -> Vals (idx.map fun i => ys.getD i .non) (idx.map fun i => us.getD i Value.none)
  | [], _ => .nil
  | i :: idx, h => by
    have hi := h i List.mem_cons_self
    refine .cons ?_ (vals_idx r idx fun j hj => h j (List.mem_cons_of_mem _ hj))
    obtain ⟨u, e, ru⟩ := r.get (List.getElem?_eq_getElem hi)
    show RelV (ys.getD i .non) (us.getD i Value.none)
    rw [List.getD_eq_getElem?_getD, List.getD_eq_getElem?_getD, e, List.getElem?_eq_getElem hi]
    exact ru
noncomputable def rSortB (K : PySem.W.Frag) : List V -> Hp -> VK -> Prop := fun xs H Q => ∃ p ys ns, xs = [.ref p] /\ (SqL K H p ys \/ SqT K H p ys) /\ PrsV K H ys ns /\ ys.length < 64 /\ ∀ q idx, IdxOk ns idx -> H q = none -> Q (.ref q) (upd H q (.lst (idx.map fun i => ys.getD i .non)))
theorem call_sortedB (K : PySem.W.Frag) (h : X.K = K) : CallR X (.builtin "sorted") (rSortB K) := by
  subst h
  intro pins s σ H xs us Q I r h
  obtain ⟨p, ys, ns, rfl, hq, hv, hn, q⟩ := h
  obtain ⟨u, rfl, ru⟩ := vals1 r
  cases ru
  have h64 : (64 : Nat) < sizeLine := by decide
  have hnl := hv.len
  have fin : ∀ its : List Value, Vals ys its -> ∀ (h1 h' : Heap) (a : Addr) (e : Nat) (idx : List Nat), IdxOk ns idx -> (∀ b o, s.heap.get? b = some o -> h1.get? b = some o) -> (∀ b o, h1.get? b = some o -> h'.get? b = some o) -> a = h1.objs.size -> h'.get? a = some (seqObj "list" (idxOut its idx) e) -> EP X pins σ Q (.ref a) { s with heap := h' } := fun its rv h1 h' a e idx hi k1 k2 ea he => by
    have I1 : Inv X pins σ H { s with heap := h1 } := I.kept (t' := s.toks) k1
    have hil : idx.length = ys.length := by have := hi.1.length_eq; rw [List.length_range] at this; omega
    have rv2 := vals_idx rv idx fun i hi2 => by have := hi.1.mem_iff.mp hi2; rw [List.mem_range] at this; omega
    have I2 : Inv X pins σ (upd H a (.lst (idx.map fun i => ys.getD i .non))) { s with heap := h' } := I1.laid (t' := s.toks) (a := a) (o := .lst (idx.map fun i => ys.getD i .non)) k2 (by rw [ea]; exact Nat.le_refl _) ⟨by rw [List.length_map]; omega, _, e, rv2, by simpa [seqObj, idxOut] using he⟩
    exact ⟨.ref a, _, I2, rfl, q _ idx hi (I1.hok.fresh (by rw [ea]; exact Nat.le_refl _))⟩
  rcases hq with hq | hq
  · obtain ⟨its, rv, pl, hz⟩ := I.list hq
    obtain ⟨o, ho, hc, m, hd⟩ := pl.isList
    exact sorted_any (.inl rfl) ho hc hd (hv.at I rv) (by rw [<- rv.length]; exact hn) (fin its rv)
  · obtain ⟨its, rv, pl, hz⟩ := I.tuple hq
    obtain ⟨o, ho, hc, m, hd⟩ := pl
    exact sorted_any (.inr rfl) ho hc hd (hv.at I rv) (by rw [<- rv.length]; exact hn) (fin its rv)
end
end L2
namespace L2
open PySem PySem.Spec PyProof.Rows
section
variable {X : Cx} {tg : Expr}
end
section
variable {X : Cx} {tg : Expr}
end
end L2
namespace L2
open PySem PySem.Spec PyProof.Rows PySem.MeetsSeq PySem.SeqAt
section
variable {X : Cx}
end
end L2
namespace L2
open PySem PySem.Spec PyProof.Rows
noncomputable abbrev IsZipF (h : Heap) (z TI TO : Addr) (f0 : Value) (f : Bool) : Prop :=
  h.get? z = some { cls := .type "zip", dict := none, data := .fields #[f0, .bool f, .bool false, .ref TI, .ref TO], slots := #[] }
noncomputable def ZSt (h : Heap) (z TI TO : Addr) : Prop := ∃ f0 f, IsZipF h z TI TO f0 f /\ (f0 = .none \/ ∃ a : Nat, f0 = rawInt a)
section
variable {prog : Program} {w : World} {A : Around} {E : Value -> Shared -> Prop} {s : Shared}
variable {z TI TO i1 i2 : Addr} {f1 f2 : List Addr} {n1 n2 i : Nat} {P1 P2 : Nat -> Value -> Prop} {S1 S2 : Nat -> Heap -> Prop} {a b : Value}
end
section
variable {X : Cx} {nx : Str} {pos' : Pos} {a b : Expr} {ta : TA} {p pos : Pos}
end
end L2
namespace L2
open PySem PySem.Spec PyProof.Rows HT
section
variable {prog : Program} {w : World} {A : Around} {E : Value -> Shared -> Prop} {s : Shared}
theorem cat_tup0 {t b : Addr} {ws : List Value} {Q : Value -> Shared -> Prop} (ht : IsTup s.heap t #[]) (hb : IsTup s.heap b ws.toArray) (h : Q (.ref b) s) : wpAny (model prog w) A (binaryOp .Add (.ref t) (.ref b)) Q E s := by
  obtain ⟨⟨cls, dd, data, sl⟩, ho, hc, n, hd⟩ := id ht
  obtain ⟨⟨cls2, dd2, data2, sl2⟩, ho2, hc2, n2, hd2⟩ := id hb
  simp only at hc hd hc2 hd2
  subst hc hd hc2 hd2
  exact concat_meets ⟨_, ho, rfl⟩ ⟨_, ho2, rfl⟩ noFill_tuple_add seq_tuple_add PySem.F.slot_tuple_add PySem.F.entry_tuple_add (PySem.F.args_tuple_add_2 _ _)
    (tuple_addW0 t b #[] ws.toArray n n2 dd dd2 sl sl2 (by simp)) ⟨ho, ho2, h⟩
theorem getItem_tuple_all {t sl : Addr} {items : Array Value} {vl vu : Value} {lo hi : Option Int} {Q : Value -> Shared -> Prop} (ht : IsTup s.heap t items) (hs : s.heap.IsSliceOf sl vl vu .none) (pl : IsPart vl lo) (pu : IsPart vu hi)
    (hw : sIx items.size 0 lo = 0 /\ sIx items.size items.size hi = items.size) (h : Q (.ref t) s) : wpAny (model prog w) A (getItem (.ref t) (.ref sl)) Q E s := by
  obtain ⟨os, hos, hcs, hds⟩ := id hs
  have hTs : s.TypeIs (.ref sl) "slice" := ⟨os, hos, hcs⟩
  unfold getItem
  try with_reducible refine wpAny_holding ?_
  first | refine wpAny_bind (wpAny_pure ?_) | skip
  refine wpAny_bind (wpAny_sequenceKey ht.typeIs (by decide) ?_)
  refine wpAny_bind (wpAny_callSpecial?_slot (name := Str.ofString "__getitem__") ht.typeIs PyProof.Rows.slot_tuple_getitem
    (wpAny_call_entry PyProof.Rows.slot_tuple_getitem ht.typeIs entry_tuple_getitem ?_ (args_tuple_getitem _ _)))
  show wpAny _ _ (Builtin.Tuple.tupleItemsOf (.ref t) >>= _) _ _ s
  refine wpAny_bind (tupleItemsOf_ ht ?_)
  refine wpAny_bind (wpAny_typeOf hTs ?_)
  rw [if_pos (by decide)]
  refine wpAny_bind (sliceApplied_gen hs pl pu ?_)
  show wpAny _ _ (if (((sIx items.size 0 lo : Nat) : Int) == 0 && (1 : Int) == 1 && (sIx items.size items.size hi - sIx items.size 0 lo) == items.size) = true then _ else _) _ _ s
  rw [if_pos (by rw [hw.1, hw.2]; simp)]
  show wpAny _ _ (Builtin.Tuple.tupleIsExact (.ref t) >>= _) _ _ s
  refine wpAny_bind (m := Builtin.Tuple.tupleIsExact (.ref t)) (wpAny_bind (wpAny_typeOf ht.typeIs (wpAny_pure ?_)))
  show wpAny _ _ (if true = true then _ else _) _ _ s
  rw [if_pos rfl]
  exact wpAny_bind (wpAny_rule (wpAny_pure ⟨_, rfl, wpAny_pure h⟩))
end
section
variable {X : Cx}
noncomputable def rCatA : R2 := fun x y H Q => ∃ a b xs ys, x = .ref a /\ y = .ref b /\ H a = some (.tup xs) /\ H b = some (.tup ys) /\ xs.length + ys.length <= sizeLine /\
  ∀ p H', (∀ c o, H c = some o -> H' c = some o) -> H' p = some (.tup (xs ++ ys)) -> Q (.ref p) H'
theorem op_catA : OpR X (binaryOp .Add) rCatA := by
  intro pins s σ H x y v u Q I rx ry h
  obtain ⟨a, b, xs, ys, rfl, rfl, ha, hb, hz, q⟩ := h
  cases rx
  cases ry
  obtain ⟨its, r1, p1, _⟩ := I.tuple (SqT.of ha)
  obtain ⟨its2, r2, p2, _⟩ := I.tuple (SqT.of hb)
  by_cases hx : xs = []
  · subst hx
    cases r1
    exact cat_tup0 p1 p2 ⟨.ref b, H, I, rfl, q b H (fun _ _ e => e) hb⟩
  refine HT.cat_tup p1 p2 (fun z => hx (r1.nil_iff.mp z)) (fun z => ⟨.ref a, H, I, rfl, ?_⟩) (fun z => ?_) (by rw [<- r1.length, <- r2.length]; exact hz)
  · have e := r2.nil_iff.mp z
    exact q a H (fun _ _ e => e) (by rw [e, List.append_nil]; exact ha)
  · have n := I.hok.fresh (Nat.le_refl s.heap.objs.size)
    refine ⟨.ref s.heap.objs.size, _, I.laid (t' := s.toks) (o := .tup (xs ++ ys)) (fun b ob q => Heap.get?_push_of_some _ q) (Nat.le_refl _) ?_, rfl, q _ _ (fun c o e => ?_) upd_same⟩
    · exact ⟨by rw [List.length_append]; exact hz, _, r1.append r2, IsTup.new _ _⟩
    · rw [upd_ne (fun z => by rw [z, n] at e; cases e)]; exact e
noncomputable def rSlA : V -> Option Int -> Option Int -> Hp -> VK -> Prop := fun x lo hi H Q => ∃ a xs, x = .ref a /\ H a = some (.tup xs) /\
  ∀ p H', (∀ c o, H c = some o -> H' c = some o) -> H' p = some (.tup (cutV xs lo hi)) -> Q (.ref p) H'
theorem sl_tupA : SlR X rSlA := by
  intro pins s σ H x v vl vu lo hi sl Q I rx hs pl pu h
  obtain ⟨a, xs, rfl, hx, q⟩ := h
  cases rx
  obtain ⟨its, r, ht, hz⟩ := I.tuple (SqT.of hx)
  have hlen : its.toArray.size = xs.length := by rw [List.size_toArray]; exact r.length.symm
  refine ⟨"tuple", _, PyProof.Rows.slot_tuple_getitem.lookup, ht.typeIs, ?_⟩
  by_cases hw : HT.sIx xs.length 0 lo = 0 /\ HT.sIx xs.length xs.length hi = xs.length
  · refine getItem_tuple_all ht hs pl pu (by rw [hlen]; exact hw) ⟨.ref a, H, I, rfl, q a H (fun _ _ e => e) ?_⟩
    unfold cutV
    rw [hw.1, hw.2, List.drop_zero, Nat.sub_zero, List.take_length]
    exact hx
  refine HT.getItem_tuple_cut ht hs pl pu (by rw [hlen]; exact hw) ?_ (by rw [hlen]; exact hz)
  rw [hlen]
  have n := I.hok.fresh (Nat.le_refl s.heap.objs.size)
  refine ⟨.ref s.heap.objs.size, _, I.laid (t' := s.toks) (o := .tup (cutV xs lo hi)) (fun b ob q => Heap.get?_push_of_some _ q) (Nat.le_refl _) ?_, rfl, q _ _ (fun c o e => ?_) upd_same⟩
  · exact ⟨Nat.le_trans (cutV_length xs lo hi) hz, _, (r.drop (HT.sIx xs.length 0 lo)).take (HT.sIx xs.length xs.length hi - HT.sIx xs.length 0 lo), IsTup.new _ _⟩
  · rw [upd_ne (fun z => by rw [z, n] at e; cases e)]; exact e
end
end L2
namespace L2
open PySem PySem.Spec PyProof.Rows
structure KD (K : PySem.W.Frag) (P : Program) (w : World) (a : Addr) (kvs : List (Key × V)) : Prop where
  sm : (a == sysModules) = false
  ok : ∃ vs ep, KV kvs vs /\ ∀ h : Heap, K.In h -> h.DictAt (mixKind P w) a vs ep
section
variable {X : Cx} {o i e value tg : Expr} {pos pos' tpos : Pos} {td ty tv : TE} (K : PySem.W.Frag) (P : Program) (w : World)
end
end L2
namespace L2
open PySem PySem.Spec PyProof.Rows
section
variable {X : Cx}
end
end L2
namespace L2
open PySem PySem.Spec PyProof.Rows
section
variable {X : Cx}
end
end L2
namespace L2
open PySem PySem.Spec PyProof.Rows
noncomputable def KEL (w : World) : List (Key × V) -> List DictEntry -> Prop
  | [], [] => True
  | (k, v) :: r, e :: es => (∃ x t, k = Sum.inr x /\ e.key = .str x t /\ e.hash = PyData.keyHash w.params x) /\ RelV v e.val /\ KEL w r es
  | _, _ => False
noncomputable def KE (kvs : List (Key × V)) (w : World) (es : Array DictEntry) : Prop := KEL w kvs es.toList
end L2
namespace L2
open PySem PySem.Spec PyProof.Rows
section
variable {X : Cx} {tg : Expr}
end
end L2
set_option maxHeartbeats 1000000
namespace L2
open PySem PySem.Spec PyProof.Rows
section
variable {prog : Program} {w : World} {A : Around} {E : Value -> Shared -> Prop} {s : Shared}
end
section
variable {X : Cx} {a b : Expr} {ta : TA} {p p2 pos pos2 : Pos}
end
end L2
set_option maxHeartbeats 1000000
namespace L2
open PySem PySem.Spec PyProof.Rows
structure PB (a₀ : Array Keyed) (st : SortSt) : Prop where
  perm : (arrOf st).Perm a₀
  kind : kindOf st = oneType'
  failed : failedOf st = none
section
variable {prog : Program} {w : World} {A : Around} {E : Value -> Shared -> Prop} {s : Shared} {κ : KeyKind} {a₀ : Array Keyed}
end
noncomputable def sg (st : SortSt) (g : Nat) : SortSt := SortSt.mk' (kindOf st) (arrOf st) (pendingOf st) g (failedOf st)
noncomputable def IsG (st st' : SortSt) : Prop := ∃ g, st' = sg st g
noncomputable def Mg (a b out : Array Keyed) (ia ib : Nat) : Prop := out.toList.Perm (a.toList.take ia ++ b.toList.take ib)
noncomputable def Mh (a b out : Array Keyed) (na nb : Nat) : Prop := out.toList.Perm (a.toList.drop na ++ b.toList.drop nb)
section
variable {prog : Program} {w : World} {A : Around} {E : Value -> Shared -> Prop} {s : Shared} {κ : KeyKind} {a₀ : Array Keyed}
end
end L2
set_option maxHeartbeats 1000000
namespace L2
open PySem PySem.Spec PyProof.Rows
section
variable {prog : Program} {w : World} {A : Around} {E : Value -> Shared -> Prop} {s : Shared} {κ : KeyKind} {a₀ : Array Keyed}
end
noncomputable def cp (P : Array (Nat × Nat × Nat)) : List (Nat × Nat) := P.toList.map fun x => (x.1, x.2.1)
noncomputable def Chn : List (Nat × Nat) -> Nat -> Nat -> Prop
  | [], a, b => a = b
  | (s, n) :: r, a, b => s = a /\ 1 <= n /\ Chn r (a + n) b
section
variable {prog : Program} {w : World} {A : Around} {E : Value -> Shared -> Prop} {s : Shared} {κ : KeyKind} {a₀ : Array Keyed}
end
end L2
set_option maxHeartbeats 1000000
namespace L2
open PySem PySem.Spec PyProof.Rows
section
variable {prog : Program} {w : World} {A : Around} {E : Value -> Shared -> Prop} {s : Shared}
end
section
variable {X : Cx}
end
end L2
set_option maxHeartbeats 1000000
namespace L2
open PySem PySem.Spec PyProof.Rows
section
variable {X : Cx}
end
end L2
set_option maxHeartbeats 1000000
namespace L2
open PySem PySem.Spec PyProof.Rows
structure LtOk (lt : Keyed -> Keyed -> Bool) : Prop where
  asym : ∀ p q, lt p q = true -> lt q p = false
  tr : ∀ p q r, lt q p = false -> lt r q = false -> lt r p = false
section
variable {prog : Program} {w : World} {A : Around} {E : Value -> Shared -> Prop} {s : Shared} {kd : SortKind} {lt : Keyed -> Keyed -> Bool} {a₀ : Array Keyed}
end
end L2
set_option maxHeartbeats 1000000
namespace L2
open PySem PySem.Spec PyProof.Rows
section
variable {lt : Keyed -> Keyed -> Bool}
noncomputable def Srt (lt : Keyed -> Keyed -> Bool) (l : List Keyed) : Prop := l.Pairwise fun p q => lt q p = false
structure MgS (lt : Keyed -> Keyed -> Bool) (a b out : Array Keyed) (ia ib : Nat) : Prop where
  m : Mg a b out ia ib
  sa : Srt lt (out.toList ++ a.toList.drop ia)
  sb : Srt lt (out.toList ++ b.toList.drop ib)
variable {a b out : Array Keyed} {ia ib k : Nat} {p q : Keyed}
end
section
variable {prog : Program} {w : World} {A : Around} {E : Value -> Shared -> Prop} {s : Shared} {kd : SortKind} {lt : Keyed -> Keyed -> Bool} {a₀ : Array Keyed}
end
end L2
set_option maxHeartbeats 1000000
namespace L2
open PySem PySem.Spec PyProof.Rows
section
variable {lt : Keyed -> Keyed -> Bool}
structure MhS (lt : Keyed -> Keyed -> Bool) (a b out : Array Keyed) (na nb : Nat) : Prop where
  m : Mh a b out na nb
  sa : Srt lt (a.toList.take na ++ out.toList.reverse)
  sb : Srt lt (b.toList.take nb ++ out.toList.reverse)
variable {a b out : Array Keyed} {na nb k : Nat} {p q : Keyed}
end
section
variable {prog : Program} {w : World} {A : Around} {E : Value -> Shared -> Prop} {s : Shared} {kd : SortKind} {lt : Keyed -> Keyed -> Bool} {a₀ : Array Keyed}
end
end L2
set_option maxHeartbeats 1000000
namespace L2
open PySem PySem.Spec PyProof.Rows
section
variable {lt : Keyed -> Keyed -> Bool}
structure PKd (kd : SortKind) (a₀ : Array Keyed) (st : SortSt) : Prop where
  perm : (arrOf st).Perm a₀
  kind : kindOf st = kd
  failed : failedOf st = none
end
section
variable {prog : Program} {w : World} {A : Around} {E : Value -> Shared -> Prop} {s : Shared} {kd : SortKind} {lt : Keyed -> Keyed -> Bool} {a₀ : Array Keyed}
end
section
variable {prog : Program} {w : World} {A : Around} {E : Value -> Shared -> Prop} {s : Shared} {kd : SortKind} {lt : Keyed -> Keyed -> Bool} {a₀ : Array Keyed}
end
end L2
set_option maxHeartbeats 1000000
namespace L2
open PySem PySem.Spec PyProof.Rows
noncomputable def spans : Nat -> List (List Keyed) -> List (Nat × Nat)
  | _, [] => []
  | a, l :: r => (a, l.length) :: spans (a + l.length) r
structure Blk (lt : Keyed -> Keyed -> Bool) (st : SortSt) (bl : List (List Keyed)) (rest : List Keyed) : Prop where
  arr : (arrOf st).toList = bl.flatten ++ rest
  pen : cp (pendingOf st) = spans 0 bl
  ok : ∀ l ∈ bl, l ≠ [] /\ Srt lt l
section
variable {prog : Program} {w : World} {A : Around} {E : Value -> Shared -> Prop} {s : Shared} {kd : SortKind} {lt : Keyed -> Keyed -> Bool} {a₀ : Array Keyed}
end
end L2
set_option maxHeartbeats 1000000
namespace L2
open PySem PySem.Spec PyProof.Rows
section
variable {prog : Program} {w : World} {A : Around} {E : Value -> Shared -> Prop} {s : Shared}
end
section
variable {X : Cx}
end
end L2
namespace L2
open PySem PySem.Spec PyProof.Rows
section
variable {X : Cx} {e st : Expr} {te : TE} {ts : TO} {pos p2 : Pos}
end
end L2
namespace PySem
open PySem.Spec PyProof.Rows
section
variable {M : Model} {A : Around} {E : Value -> Shared -> Prop} {s₀ s : Shared} {m cm : Str -> Option Value} {env : Env}
theorem stLC_tok {n : Str} {v : Value} {Q : Unit -> Shared -> Prop} (x : InCallC s₀ env.locals m env.cells cm s) (hk : env.scope.kind = .function) (hl : env.kindOf n = some .local)
    (h : ∀ s', InCallC s₀ env.locals (fun y => if y = n then some v else m y) env.cells cm s' -> s'.toks = s.toks + 1 -> Q () s') : wpAny M A (storeName env n v) Q E s := by
  obtain ⟨m', hn⟩ : ∃ m', s.heap.Ns env.locals m' := ⟨_, x.toInCall.ns⟩
  refine wpAny_mono (wpAny_and (stLC x hk hl (Q := fun _ s' => InCallC s₀ env.locals (fun y => if y = n then some v else m y) env.cells cm s') (E := E) fun s' x' => x') (wpAny_storeName_local (v := v) (Q := fun _ s' => s'.toks = s.toks + 1) (E := E) hl hn (fun h' _ _ => rfl) (by rw [hk]; rfl))) (fun u s' ⟨a, b⟩ => h s' a b) fun _ _ z => z.1
theorem newEnv_toks {scope : Scope} {globals : Addr} {n : Str} {v : Value} {r : List (Str × Value)} {qual : Str} {func : Option Addr} {code : Value} {builtins : Addr} {Q : Env -> Shared -> Prop}
    (hk : scope.kind = .function) (hl : scope.names.lookup n = some .local)
    (hkind : ∀ x ∈ (n, v) :: r, scope.names.lookup x.1 = some .local \/ (scope.names.lookup x.1 = some .cell /\ ((cellsFrom (s.heap.objs.size + 1) scope.names []).lookup x.1).isSome = true))
    (hQ : ∀ env, env = newEnv scope s.heap.objs.size globals (cellsFrom (s.heap.objs.size + 1) scope.names []) qual func code none builtins ->
      ∀ s', InCallC s env.locals (bindL env.kindOf ((n, v) :: r) fun _ => none) env.cells (bindC env.kindOf ((n, v) :: r) fun _ => none) s' -> s.toks < s'.toks -> Q env s') :
    wpAny M A (newFunctionEnv scope globals [] ((n, v) :: r) qual func code none builtins) Q E s := by
  refine wpAny_mono (wpAny_and (wpAny_newFunctionEnv_cells (Q := fun env s' => env = newEnv scope s.heap.objs.size globals (cellsFrom (s.heap.objs.size + 1) scope.names []) qual func code none builtins /\ InCallC s env.locals (bindL env.kindOf ((n, v) :: r) fun _ => none) env.cells (bindC env.kindOf ((n, v) :: r) fun _ => none) s') (E := E) hk hkind fun env he s' x => ⟨he, x⟩) (Q' := fun _ s' => s.toks < s'.toks) (E' := E) ?_) (fun env s' ⟨⟨a, b⟩, c⟩ => hQ env a s' b c) fun _ _ z => z.1
  simp only [newFunctionEnv, Option.isSome_none, Bool.false_eq_true, if_false]
  refine wpAny_bind (wpAny_alloc ?_)
  refine wpAny_bind (wpAny_layCells _ (fun name kind cells => by cases hkc : kind == NameKind.cell <;> simp [hkc]) _ _ _ _ ?_)
  have ok := cellsFrom_ok scope.names (s.heap.push { cls := .type "frame", data := .dict #[] }) (s.heap.objs.size + 1) [] ⟨fun _ _ hm => (nomatch hm), List.Pairwise.nil⟩ (by rw [Heap.size_push]; exact Nat.le_refl _)
  rw [Heap.size_push] at ok
  rw [show ({ s with heap := s.heap.push { cls := .type "frame", data := .dict #[] } } : Shared).heap.objs.size = s.heap.objs.size + 1 from Heap.size_push ..]
  have X0 : InCallC s (newEnv scope s.heap.objs.size globals (cellsFrom (s.heap.objs.size + 1) scope.names []) qual func code none builtins).locals (fun _ => none) (newEnv scope s.heap.objs.size globals (cellsFrom (s.heap.objs.size + 1) scope.names []) qual func code none builtins).cells (fun _ => none) { s with heap := pushCells (s.heap.push { cls := .type "frame", data := .dict #[] }) scope.names } :=
    ⟨⟨⟨_, _, rfl⟩, (Heap.Ns.new s.heap (.type "frame")).keeps (pushCells_keeps _ _), fun b o e => pushCells_keeps _ _ b o (Heap.get?_push_of_some _ e), Nat.le_refl _⟩,
      fun n c hc => (ok.empty n c (mem_of_lookup hc)).1, ok.apart, fun n c hm => (ok.empty n c hm).2⟩
  rw [List.forIn_cons]
  refine wpAny_bind (wpAny_bind (wpAny_bind (stLC_tok X0 hk hl fun s' x' ht => wpAny_pure ?_)))
  refine wpAny_mono (wpAny_toks (wpAny_bindParams (s₀ := s) (E := E) _ (fun _ _ _ => rfl) hk r _ _ s' (fun _ _ => True) x' (fun y hy => hkind y (List.mem_cons_of_mem _ hy)) fun _ _ => trivial)) (fun _ s'' ⟨hle, _⟩ => wpAny_pure ?_) fun _ _ z => z.2
  exact Nat.lt_of_lt_of_le (by rw [ht]; exact Nat.lt_succ_self _) hle
end
end PySem
namespace L2
open PySem PySem.Spec PyProof.Rows
noncomputable def Tk (lo hi : Nat) (u : Value) : Prop := ∃ z t, u = .str z t /\ lo <= t /\ t < hi
theorem Tk.mono {lo lo' hi hi' : Nat} {u : Value} (h : Tk lo hi u) (h1 : lo' <= lo) (h2 : hi <= hi') : Tk lo' hi' u := by
  obtain ⟨z, t, e, a, b⟩ := h
  exact ⟨z, t, e, Nat.le_trans h1 a, Nat.lt_of_lt_of_le b h2⟩
structure FnOkV (P : Program) (w : World) (K : PySem.W.Frag) (mg : Str -> Option Value) (base : Heap) (k : Nat) (f : Addr) (fd : FuncData) (ps : List Str) (sp : Sp) (post : Shared -> Value -> Shared -> Prop) : Prop where
  len : ∀ vs H Q E, sp vs H Q E -> vs.length = ps.length
  run : ∀ (A : Around) (outer : List Env) (s : Shared) (H : Hp) (args : Args) (us : List Value) (vs : List V) (Q : VK) (E : XK), Room k A -> Env0 P w K mg base A outer s H -> BindsTo s fd args (ps.zip us) -> Vals vs us -> sp vs H Q E ->
    codeAny (model P w) A (.call (.ref f) args) (fun r s' => CR CX0 outer P w H s Q E r s' /\ ∀ u, r = .ok (.ret u) -> post s u s') s
theorem FnOkV.fn {P : Program} {w : World} {K : PySem.W.Frag} {mg : Str -> Option Value} {base : Heap} {k : Nat} {f : Addr} {fd : FuncData} {ps : List Str} {sp : Sp} {post : Shared -> Value -> Shared -> Prop}
    (F : FnOkV P w K mg base k f fd ps sp post) : FnOk P w K mg base CX0 k f fd ps sp := ⟨F.len, fun A outer s H args us vs Q E hr e0 hb hv hs => codeAny_mono (F.run A outer s H args us vs Q E hr e0 hb hv hs) fun _ _ h => h.1⟩
noncomputable def RetV (p : Value -> Shared -> Prop) (fl : Flow) (s' : Shared) : Prop := match fl with
  | .ret u => p u s'
  | _ => False
noncomputable def PSsV (X : Cx) (n : Nat) (p : Value -> Shared -> Prop) (st : List Stmt) (t : TS) : Prop :=
  ∀ (pins : List (Addr × Obj)) (s : Shared) (σ : St) (H : Hp) (D : Ends), Inv X pins σ H s -> n <= s.toks -> t D σ H -> wpAny (model X.prog X.w) X.A (execs st X.env) (fun fl s' => SP X pins D fl s' /\ RetV p fl s') X.xe s
section
variable {P : Program} {w : World} {K : PySem.W.Frag} {mg : Str -> Option Value} {base : Heap}
theorem Fun.okV {x qual : Str} {st : Stmt} {f : Addr} {fd : FuncData} {N ps : List Str} {k : Nat} {sp : Sp} {post : Shared -> Value -> Shared -> Prop} (F : Fun K x qual st f fd) (S : FnScope N ps (defScope st)) (len : ∀ vs H Q E, sp vs H Q E -> vs.length = ps.length)
    (hp0 : ∃ n r, ps = n :: r /\ (defScope st).names.lookup n = some .local)
    (hbody : ∀ (cdv : Value) (A : Around) (outer : List Env) (s : Shared) (H : Hp) (vs : List V) (Q : VK) (E : XK), Room k (A.deeper (envOfC qual (defScope st) s.heap.objs.size f cdv)) -> sp vs H Q E ->
      ∃ t : TS, PSsV (cxOf CX0 P w K mg base N qual (defScope st) f cdv A outer s H E).nox (s.toks + 1) (post s) (defBody st) t /\ t { nx := fun _ H' => Q .non H', rt := Q } (start N vs) H) : FnOkV P w K mg base (k + 1) f fd ps sp post := by
  obtain ⟨oc, od, kV, doc, pm, an, cdv, ct, osl, rfl, lk, hcd⟩ := F.ex
  refine ⟨len, fun A outer s H args us vs Q E hr e0 hb r hsp => ?_⟩
  have KX : K.In s.heap := e0.mod.kin.keeps fun b o e => (e0.bs b o e).1
  have lim : s.heap.NoLimit := e0.mod.nolimit.keeps fun b o e => (e0.bs b o e).1
  obtain ⟨n0, r0, rfl, hl0⟩ := hp0
  obtain ⟨u0, ur, rfl⟩ : ∃ u0 ur, us = u0 :: ur := by
    have h1 := len _ _ _ _ hsp
    have h2 := r.length
    cases us with
    | nil => rw [h1] at h2; simp at h2
    | cons u0 ur => exact ⟨u0, ur, rfl⟩
  refine codeAny_call_function hr.depth (KX _ _ lk) rfl S.co S.gen rfl (PySem.W.codeRec_of KX hcd) (hb _ _ _ _ ?_)
  rw [List.zip_cons_cons] at *
  refine newEnv_toks S.kind hl0 (fun ⟨n, v⟩ hy => ?_) fun env he s1 x htk => ?_
  · rcases S.par n (by rw [<- List.zip_cons_cons] at hy; exact (List.of_mem_zip hy).1) with q | q
    · exact .inl q
    · exact .inr ⟨q, PySem.W.cellsFrom_some _ _ _ (.inl q)⟩
  subst he
  rw [<- List.zip_cons_cons] at x
  obtain ⟨t, ht, hq⟩ := hbody cdv A outer s H vs Q E (hr.deeper _) hsp
  have I0 : Inv (cxOf CX0 P w K mg base N qual (defScope st) f cdv A outer s H E) [] (start N vs) H s1 := inv_start S hr.hd e0 (len _ _ _ _ hsp) r x
  refine ⟨lim.keeps x.toInCall.keep, codeAny_func (wpAny_mono (ht [] s1 _ _ _ (I0.wish _) htk hq) (fun fl s' ⟨hs, hp⟩ => ?_) fun _ _ z => z.elim)⟩
  cases fl with
  | ret u =>
    obtain ⟨v, σ', H', J, rv, q⟩ := hs
    exact ⟨⟨v, H', J.os, J.bare, J.base, J.hok, rv, q⟩, fun u' e => by cases e; exact hp⟩
  | next => exact hp.elim
  | brk => exact hp.elim
  | cont => exact hp.elim
end
section
variable {X : Cx} {n : Nat} {p : Value -> Shared -> Prop}
theorem pssv_set {i : Nat} {y : Str} {e : Expr} {te : TE} {pos pos' : Pos} {rest : List Stmt} {u : TS} (hN : X.N.Nodup) (hi : X.N[i]? = some y) (hy : Loc X.env.scope y) (he : PE X e te) (hrest : PSsV X n p rest u)
    (hs : swapsWith e (some (.Name y pos')) pos.line X.env = pure false := by rfl) (hf : X.fn y = true \/ X.env.scope.names.lookup y = some .local := by first | exact .inl rfl | exact .inr rfl | assumption) :
    PSsV X n p (.Assign [.Name y pos'] e pos :: rest) (tSeq (tAsg te (gName i)) u) := by
  intro pins s σ H D I hn h
  refine wpAny_execs_cons (wpAny_Assign_Name (thnT (he pins s σ H _ I h) fun v s1 ⟨k1, w', H1, I1, r1, q1⟩ => ?_) hs)
  refine thnT (store_ok (Q := fun _ s' => Inv X pins (σ.set i (some w')) H1 s') (E := X.xe) I1 hN hi hy r1 (fun s2 I2 => I2) hf) fun _ s2 ⟨k2, I2⟩ => ?_
  exact hrest pins s2 _ H1 D I2 (by omega) q1
theorem pssv_if {c : Expr} {a rest : List Stmt} {tc : TT} {t u : TS} {pos : Pos} (hc : PT X c tc) (ha : PSsV X n p a t) (hrest : PSsV X n p rest u) : PSsV X n p (.If c a [] pos :: rest) (tSeq (tIfS tc t tNext) u) := by
  intro pins s σ H D I hn h
  refine wpAny_execs_cons (wpAny_If (thnT (hc pins s σ H _ I h) fun d s1 ⟨k1, H1, I1, q1⟩ => ?_))
  cases d with
  | true =>
    refine wpAny_mono (ha pins s1 σ H1 _ I1 (by omega) q1) (fun fl s' ⟨a, b⟩ => ?_) fun _ _ z => z
    cases fl with
    | ret u => exact ⟨a, b⟩
    | next => exact b.elim
    | brk => exact b.elim
    | cont => exact b.elim
  | false => exact wpAny_execs_nil (hrest pins s1 σ H1 D I1 (by omega) q1)
theorem ixS_tok {value slice : Expr} {pins : List (Addr × Obj)} {s : Shared} {σ : St} {H : Hp} {x y : V} {v u : Value} {Q : VK} (I : Inv X pins σ H s) (rx : RelV x v) (ry : RelV y u) (h : rIxS' x y H Q) (hs : subscripted slice false v u = operate [v, u] (getItem v u)) :
    wpAny (model X.prog X.w) X.A (subscriptTail value slice v u) (fun r s' => EP X pins σ Q r s' /\ Tk s.toks s'.toks r) X.xe s := by
  obtain ⟨l, i, c, rfl, rfl, hz, he, q⟩ := h
  have he' : atI (S l).cps.toList i = some c := by rw [S_list]; exact he
  have hz' : (S l).length <= sizeLine := by rw [S_len]; exact hz
  generalize S l = z at he' hz' rx hs
  obtain ⟨t, rfl⟩ := rx
  obtain ⟨t', rfl⟩ := ry
  obtain ⟨j, h1, h2, h3, h4, h5⟩ := atI_get he'
  have hl : z.cps.toList.length = z.length := by simp [Str.length]
  rw [hl] at h1 h4 h5
  have hn := line63
  exact tail_any (typeIs_str s z t) slot_str_getitem.lookup (getItem_str (c := c) (by
    have e1 : decide (i < -(2 ^ 63 : Int)) = false := decide_eq_false (by omega)
    have e2 : decide (i ≥ 2 ^ 63) = false := decide_eq_false (by omega)
    rw [e1, e2, Bool.or_false]) (by rw [h1]; simpa using h2) ⟨⟨.str ⟨#[c]⟩, H, I.tok _, ⟨_, rfl⟩, q⟩, _, _, rfl, Nat.le_refl _, Nat.lt_succ_self _⟩) hs
theorem pssv_retIx {a b : Expr} {ta tb : TE} {pos pos' : Pos} (ha : PE X a ta) (hb : PE X b tb) (hs : PlainIx b) : PSsV X n (fun u s' => Tk n s'.toks u) [.Return (some (.Subscript a b pos)) pos'] (tRet (tOp rIxS' ta tb)) := by
  intro pins s σ H D I hn h
  refine wpAny_execs_cons (wpAny_Return_some (Subscript_ ?_))
  refine thnT (ha pins s σ H _ I h) fun v s1 ⟨k1, x, H1, I1, r1, q1⟩ => ?_
  refine thnT (hb pins s1 σ H1 _ I1 q1) fun u s2 ⟨k2, y, H2, I2, r2, q2⟩ => ?_
  refine thn (ixS_tok I2 r1 r2 q2 (hs _ _)) fun r s3 ⟨⟨z, H3, I3, r3, q3⟩, tk⟩ => ⟨⟨z, σ, H3, I3, r3, q3⟩, ?_⟩
  exact tk.mono (by omega) (Nat.le_refl _)
end
end L2
namespace L2
open PySem PySem.Spec PyProof.Rows
noncomputable def Kp (X : Cx) (s s' : Shared) : Prop := ∀ m, s.heap.Ns X.env.locals m -> s'.heap.Ns X.env.locals m
theorem Kp.trans {X : Cx} {s s' s2 : Shared} (a : Kp X s s') (b : Kp X s' s2) : Kp X s s2 := fun m h => b m (a m h)
theorem Kp.un {X : Cx} {pins : List (Addr × Obj)} {s s' : Shared} {σ : St} {H H' : Hp} {fs ex : List Addr} (I : Inv X pins σ H s) (u : Un fs ex H H' s.heap s'.heap) (hx : X.env.locals ∉ ex) : Kp X s s' := fun m ⟨o, es, ep, e, r⟩ => by
  obtain ⟨sl, e'⟩ := u.any e I.free hx
  exact ⟨_, es, ep, e', r⟩
noncomputable def PTK (Y : Cx) (c : Expr) (tc : TT) : Prop := ∀ (pins : List (Addr × Obj)) (s : Shared) (σ : St) (H : Hp) (Q : Bool -> Hp -> Prop), Inv Y pins σ H s -> tc σ H Q -> wpAny (model Y.prog Y.w) Y.A (isTrue c Y.env (eval c Y.env)) (fun b s' => TP Y pins σ Q b s' /\ s'.heap = s.heap) Y.xe s
noncomputable def PIEX (X : Cx) (s : Shared) (pins : List (Addr × Obj)) (σ : St) (tg : Expr) (R : It -> Hp -> Prop) (itv : Value) (s2 : Shared) : Prop :=
  ∃ (it : Addr) (fp : List Addr) (tn : Nat -> Heap -> Prop) (J : It) (H' : Hp), itv = .ref it /\ Inv X pins σ H' s2 /\ TurnT X.prog X.w X.K tg J fp it tn /\ tn 0 s2.heap /\ (∀ b ∈ fp, FpOk X pins H' b) /\ R J H' /\ s.toks <= s2.toks /\ Kp X s s2
noncomputable def PIX (X : Cx) (tg iter : Expr) (wi : TI) : Prop :=
  ∀ (pins : List (Addr × Obj)) (s : Shared) (σ : St) (H : Hp) (R : It -> Hp -> Prop), Inv X pins σ H s -> wi σ H R ->
    wpAny (model X.prog X.w) X.A (eval iter X.env) (fun v s1 => wpAny (model X.prog X.w) X.A (pyIter v) (PIEX X s pins σ tg R) X.xe s1) X.xe s
theorem comp_coreK {X : Cx} {iter cond : Expr} {xb : Str} {bp xp : Pos} {j : Nat} {scope : Scope} {pos : Pos} {wi : TI} {tc : TT} {Nc : List Str} {ix : List (Option Nat)} (hi : PIX X (.Name xb bp) iter wi) (hcalm : X.calm = true) (hix : IxOk X scope Nc ix)
    (hcell : ∀ y ∈ scope.names, y.2 ≠ .cell) (hkind : scope.kind = .function) (hfr : ∀ y ∈ scope.names, y.2 = .free -> X.env.kindOf y.1 = some .cell \/ X.env.kindOf y.1 = some .free)
    (hnd : Nc.Nodup) (hjx : Nc[j]? = some xb) (hlx : ∀ C s H fp, (cxComp X scope C Nc s H fp).env.kindOf xb = some .local) (hCc : ∀ C s H fp, PTK (cxComp X scope C Nc s H fp) cond tc)
    (hdx : (xb == ("__debug__" : Str)) = false) (hcx : (xb == ("__classdict__" : Str)) = false)
    {pins : List (Addr × Obj)} {s : Shared} {σ : St} {H : Hp} {Q : VK} (I : Inv X pins σ H s) (h : tComp wi ix (gName j) tc (tVar j) σ H Q) {RR : Value -> Addr -> Result -> Shared -> Prop}
    (hRR : ∀ (D C : Addr) (oC : Obj) (m : Str -> Option Value) (H' : Hp) (s' : Shared) (its : List Value) (nn : Nat), s'.heap.get? C = some oC -> s'.heap.Ns C m -> FpOk X pins H' C -> Inv X (pins ++ [(C, oC)]) σ H' s' -> D ≠ C -> s'.heap.get? D = some { cls := .type "list", data := .seq its.toArray nn } -> (∀ u ∈ its, Tk s.toks s'.toks u) -> Kp X s s' -> Q (.ref D) H' -> RR (.ref D) C (.ok .next) s') :
    wpAny (model X.prog X.w) X.A (eval iter X.env) (fun v s1 => wpAny (model X.prog X.w) X.A (pyIter v) (fun it s2 => wpAny (model X.prog X.w) X.A (newList []) (fun acc s3 =>
      wpAny (model X.prog X.w) X.A (newFunctionEnv scope X.env.globals (clOf X.env scope.names []) [] X.env.qual none .none (some X.env)) (fun cenv s4 =>
        codeAny (model X.prog X.w) X.A (.compStart (.ListComp (.Name xb xp) [⟨.Name xb bp, iter, [cond], 0⟩] scope pos) 0 it acc { cenv with scope := relabel scope X.env }) (RR acc cenv.locals) s4) X.xe s3) X.xe s2) X.xe s1) X.xe s := by
  refine thn (hi pins s σ H _ I h) fun v s1 h1 => thn h1 fun itv s2 h2 => ?_
  obtain ⟨it, fp, tn, J, H2, e, I2, TT, st2, f2, ⟨W, ⟨m0, w0⟩, turn⟩, hk2, kp2⟩ := h2
  have T := TT.toTurn
  subst e
  refine wpAny_newObj_type (wpAny_newFunctionEnv hcell (by intro y hy; simp at hy) (fun h₁ hns₁ hsb₁ => ?_) hkind)
  dsimp only at hns₁ hsb₁ ⊢
  generalize hH2 : s2.heap.push { cls := .type "list", dict := none, data := .seq ([] : List Value).toArray } = P2 at hns₁ hsb₁ ⊢
  have hC : P2.objs.size = s2.heap.objs.size + 1 := by rw [<- hH2, Heap.size_push]
  have hDC : s2.heap.objs.size ≠ P2.objs.size := by rw [hC]; exact Nat.ne_of_lt (Nat.lt_succ_self _)
  have hCle : s2.heap.objs.size <= P2.objs.size := by rw [hC]; exact Nat.le_succ _
  have neC : ∀ b, b < s2.heap.objs.size -> b ≠ P2.objs.size := fun b hb => by rw [hC]; exact Nat.ne_of_lt (Nat.lt_succ_of_lt hb)
  have old : ∀ b o, s2.heap.get? b = some o -> h₁.get? b = some o := fun b o e => hsb₁.extBut b o (neC b (Heap.lt_size e)) (Heap.get?_push_of_some _ (hH2 ▸ Heap.get?_push_of_some _ e))
  have hacc : h₁.get? s2.heap.objs.size = some { cls := .type "list", data := .seq ([] : List Value).toArray } := hsb₁.extBut _ _ hDC (Heap.get?_push_of_some _ (hH2 ▸ Heap.get?_push_size _ rfl))
  have st₁ : tn 0 h₁ := T.keep 0 _ _ st2 fun b _ o e => old b o e
  have hfo : ∀ b ∈ fp, ∃ o, s2.heap.get? b = some o := fun b hb => let ⟨o, e, _⟩ := T.obj 0 _ st2 b hb; ⟨o, e⟩
  have fpD : ∀ b ∈ fp, s2.heap.objs.size ≠ b := fun b hb => let ⟨o, e⟩ := hfo b hb; Nat.ne_of_gt (Heap.lt_size e)
  have IY := comp_start I2 hix hcell hkind hfr f2 hfo (t' := s2.toks + ([] : List (Str × Value)).length) hCle hns₁ old
  have notS : ∀ b, s2.heap.objs.size <= b -> b ∉ frs X.stack := fun b hb hs => by
    rcases List.mem_cons.mp (I2.stkSub b hs) with z | z
    · exact absurd (Nat.lt_of_lt_of_le I2.lt hb) (by rw [z]; exact Nat.lt_irrefl _)
    · exact I2.nofs hb z
  have from_ : ∀ {x : Str} {c : Addr}, (clOf X.env scope.names []).lookup x = some c -> X.env.cells.lookup x = some c := fun {x c} e => clOf_from scope.names [] (fun y d q => by simp at q) e
  have cellD : ∀ x c, (clOf X.env scope.names []).lookup x = some c -> c ≠ s2.heap.objs.size := fun x c e z => by
    obtain ⟨v, q⟩ := I2.cell x c (from_ e)
    exact absurd (q.lt) (by rw [z]; exact Nat.lt_irrefl _)
  have fY : ∀ {pl : List (Addr × Obj)} {H' : Hp}, (∀ p ∈ pl, p.1 = s2.heap.objs.size) -> (∀ b ∈ fp, H' b = none) -> ∀ b ∈ fp, FpOk (cxComp X scope P2.objs.size Nc s2 H2 fp) pl H' b := fun {pl H'} hpl hn b hb => by
    refine ⟨hn b hb, ?_, ?_, .inl hb, fun x c e => (f2 b hb).2.2.2.2.1 x c (from_ e), fun p hp => ?_⟩
    · obtain ⟨o, e⟩ := hfo b hb
      exact neC b (Heap.lt_size e)
    · intro hs
      rcases List.mem_cons.mp (I2.stkSub b hs) with z | z
      · exact (f2 b hb).2.1 z
      · exact (f2 b hb).2.2.1 z
    · rw [hpl p hp]
      exact fpD b hb
  have loop : ∀ s₃ : Shared, s₃ = { s2 with heap := h₁, toks := s2.toks + ([] : List (Str × Value)).length } ->
      codeAny (model X.prog X.w) X.A (.compLoop (.ListComp (.Name xb xp) [⟨.Name xb bp, iter, [cond], 0⟩] scope pos) 0 (.ref it) (.ref s2.heap.objs.size) (compEnvC scope (clOf X.env scope.names []) P2.objs.size X.env)) (RR (.ref s2.heap.objs.size) P2.objs.size) s₃ := by
    rintro s₃ rfl
    refine compLoop_gen (fun n s' => ∃ i acc its nn H', Inv (cxComp X scope P2.objs.size Nc s2 H2 fp) [] (subSt σ ix) H' s' /\ tn i s'.heap /\ (∀ b ∈ fp, H' b = none) /\
      s'.heap.get? s2.heap.objs.size = some { cls := .type "list", data := .seq (its : List Value).toArray nn } /\ Vals acc its /\ H' s2.heap.objs.size = none /\ W i n acc H' /\ s.toks <= s'.toks /\ ∀ u ∈ its, Tk s.toks s'.toks u) ?_ m0
      ⟨0, [], [], 0, H2, IY, st₁, fun b hb => (f2 b hb).1, hacc, .nil, I2.hok.fresh (Nat.le_refl _), w0, hk2, fun _ h => absurd h List.not_mem_nil⟩
    rintro n s3 ⟨i, acc, its, nn, H3, I3, st3, fr3, eD, rv, nD, w3, p3, tk3⟩
    obtain ⟨hz, alt⟩ := turn i n acc H3 w3
    have IP : Inv (cxComp X scope P2.objs.size Nc s2 H2 fp) [(s2.heap.objs.size, { cls := .type "list", data := .seq its.toArray nn })] (subSt σ ix) H3 s3 := I3.pins_of fun p hp => by
      have e : p = (s2.heap.objs.size, _) := List.mem_singleton.mp hp
      subst e
      refine ⟨eD, nD, hDC, notS _ (Nat.le_refl _), fun v z => ?_⟩
      have z' : Data.seq its.toArray nn = Data.cell v := z
      cases z'
    have hpl : ∀ p ∈ [(s2.heap.objs.size, ({ cls := .type "list", data := .seq its.toArray nn } : Obj))], p.1 = s2.heap.objs.size := fun p hp => by
      have e : p = (s2.heap.objs.size, _) := List.mem_singleton.mp hp
      rw [e]
    rcases alt with ⟨stop, fin⟩ | ⟨go, step⟩
    · refine thnT (T.done (cxComp X scope P2.objs.size Nc s2 H2 fp) rfl rfl rfl hcalm i _ s3 _ H3 noE IP (fY hpl fr3) st3 stop) fun r s4 ⟨k4, hr, I4⟩ => ?_
      subst hr
      obtain ⟨m, hn, _⟩ := id I4.loc
      obtain ⟨oC, es, ep, eC, dC, _⟩ := id hn
      have eD4 := (I4.pin (s2.heap.objs.size, _) (List.mem_append_right _ (List.mem_singleton.mpr rfl))).1
      have fin' := fin _ nD
      have kp4 : Kp X s2 s4 := Kp.un I2 I4.base fun z => (f2 _ z).2.1 rfl
      refine hRR _ _ oC m _ s4 its nn eC hn ?_ (comp_exit I2 I4 f2 (Nat.le_refl _) hCle hDC eD4 rv (Nat.le_of_lt hz) nD eC fun v z => ?_) hDC eD4 (fun u hu => (tk3 u hu).mono (Nat.le_refl _) k4) (kp2.trans kp4) fin'
      · refine I2.fpOk hCle ?_
        rw [upd_ne (Ne.symm hDC)]
        exact I4.free
      · rw [dC] at z; cases z
    · refine thn (TT.itemT (cxComp X scope P2.objs.size Nc s2 H2 fp) rfl rfl rfl hcalm i _ s3 _ H3 noE IP (fY hpl fr3) st3 go) fun r s4 ⟨u, hr, ⟨z4, hz4⟩, k4, h4⟩ => ?_
      subst hr
      refine thnT h4 fun _ s5 ⟨k5, x, H5, I5, r5, y5, st5, fr5⟩ => ?_
      have I5' := I5.pinned (fY hpl fr5) (T.obj _ _ st5)
      have wk := (step x H5 y5).1
      have q6 : tc _ H5 _ := (step x H5 y5).2
      obtain ⟨mm, hnn, _⟩ := id I5'.loc
      have hcls : ((cxComp X scope P2.objs.size Nc s2 H2 fp).env.scope.kind == .class || ((cxComp X scope P2.objs.size Nc s2 H2 fp).env.scope.kind == .module && (cxComp X scope P2.objs.size Nc s2 H2 fp).env.locals != (cxComp X scope P2.objs.size Nc s2 H2 fp).env.globals)) = false := by rw [I5'.ok.kind]; rfl
      refine wpAny_mono (wpAny_assign_Name (wpAny_and (Q := fun _ s' => Inv (cxComp X scope P2.objs.size Nc s2 H2 fp) _ ((subSt σ ix).set j (some x)) H5 s') (Q' := fun _ s' => (∃ m, s'.heap.Ns P2.objs.size m /\ m xb = some u) /\ s'.toks = s5.toks + 1)
        (store_ok (E := noE) I5' hnd hjx (.inl (hlx P2.objs.size s2 H2 fp)) r5 (fun s' I' => I') (.inr (hlx P2.objs.size s2 H2 fp)))
        (wpAny_storeName_local (E := noE) (hlx P2.objs.size s2 H2 fp) hnn (fun h' hn' hs => ⟨⟨_, hn', by rw [if_pos rfl]⟩, rfl⟩) hcls))) (fun _ s6 ⟨I6, ⟨m6, n6, e6⟩, k6⟩ => ?_) fun _ _ z => z.1.elim
      generalize hσ6 : (subSt σ ix).set j (some x) = σ6 at I6 q6 wk
      have again : ∀ {H9 : Hp} {s9 : Shared} {m' : Nat}, Inv (cxComp X scope P2.objs.size Nc s2 H2 fp) ([(s2.heap.objs.size, ({ cls := .type "list", data := .seq its.toArray nn } : Obj))] ++ pinsAt fp s5.heap) σ6 H9 s9 ->
          (s9.heap.get? s2.heap.objs.size = some { cls := .type "list", data := .seq its.toArray nn } /\ H9 s2.heap.objs.size = none) /\ tn (i + 1) s9.heap /\ (∀ b ∈ fp, H9 b = none) /\ Inv (cxComp X scope P2.objs.size Nc s2 H2 fp) [] (subSt σ ix) H9 s9 := fun {H9 s9 m'} I9 => by
        have pD := I9.pin (s2.heap.objs.size, _) (List.mem_append_right _ (List.mem_append_left _ (List.mem_singleton.mpr rfl)))
        refine ⟨⟨pD.1, pD.2.1⟩, T.keep _ _ _ st5 fun b hb o e => (I9.pin (b, o) (List.mem_append_right _ (List.mem_append_right _ (mem_pinsAt hb e)))).1, fun b hb => ?_, ?_⟩
        · obtain ⟨o, e, d⟩ := T.obj _ _ st5 b hb
          exact (I9.pin (b, o) (List.mem_append_right _ (List.mem_append_right _ (mem_pinsAt hb e)))).2.1
        · exact (I9.weak wk.len fun i v e => wk.get e).pins_of fun p hp => absurd hp (by simp)
      refine wpAny_tests_one (thnT (hCc _ s2 H2 fp _ s6 σ6 H5 _ I6 q6) fun b s7 ⟨k7, ⟨H7, I7, q7⟩, hh7⟩ => ?_)
      have k36 : s3.toks < s7.toks := by omega
      cases b with
      | false =>
        rw [if_neg Bool.false_ne_true] at q7 ⊢
        obtain ⟨m', hm, w7⟩ := q7
        obtain ⟨⟨e7, n7⟩, t7, f7, J7⟩ := again (m' := 0) I7
        exact ⟨m', hm, i + 1, acc, its, nn, H7, J7, t7, f7, e7, rv, n7, w7, by omega, fun u hu => (tk3 u hu).mono (Nat.le_refl _) (by omega)⟩
      | true =>
        rw [if_pos rfl] at q7 ⊢
        obtain ⟨v, ev, m', hm, w8⟩ := q7
        refine thn (name0 (pos := xp) I7 hjx (.inl (hlx _ s2 H2 fp)) ev hdx hcx) fun y s8 ⟨es, r8, mx⟩ => ?_
        subst es
        have n7 : s8.heap.Ns P2.objs.size m6 := by rw [hh7]; exact n6
        have ey : some y = some u := (mx (hlx _ s2 H2 fp) m6 n7).symm.trans e6
        cases ey
        obtain ⟨⟨e8, n8⟩, t8, f8, J8⟩ := again (m' := 0) I7
        refine wpAny_list_append_plain (items := its.toArray) ⟨nn, e8⟩ (fun h9 hl9 hs9 => ?_) (by rw [List.size_toArray, <- rv.length]; exact Nat.le_of_lt hz)
        obtain ⟨n9, e9⟩ := hl9
        refine ⟨m', hm, i + 1, acc ++ [v], its ++ [u], n9, H7, J8.turned (t' := s8.toks) (fun b o hb e => (hs9.2 b hb).trans e) n8 hDC (.inr (Nat.le_refl _)) cellD (fun p hp => absurd hp (by simp [cxComp])), ?_, f8, ?_, rv.append (.cons r8 .nil), n8, w8, ?_, fun z hz' => ?_⟩
        · exact T.keep _ _ _ t8 fun b hb o e => (hs9.2 b (Ne.symm (fpD b hb))).trans e
        · simpa using e9
        · show s.toks <= s8.toks
          omega
        · show Tk s.toks s8.toks z
          rcases List.mem_append.mp hz' with g | g
          · exact (tk3 z g).mono (Nat.le_refl _) (by omega)
          · rw [List.mem_singleton.mp g, hz4]
            exact ⟨_, _, rfl, p3, k36⟩
  exact codeAny_compStart_list (loop _ rfl) (T.self _ 0 _ _ _ st₁ (loop _ rfl))
end L2
namespace L2
open PySem PySem.Spec PyProof.Rows
section
variable {X : Cx}
theorem Inv.freeze {pins : List (Addr × Obj)} {s : Shared} {σ : St} {H : Hp} {D : Addr} {xs : List V} {o : Obj} (I : Inv X pins σ H s) (hD : H D = some (.lst xs)) (ho : s.heap.get? D = some o) : Inv X pins σ (upd H D (.frz o (.lst xs))) s := by
  have nD : ∀ {b : Addr}, H b = none -> upd H D (.frz o (.lst xs)) b = none := fun {b} e => by rw [upd_ne (fun z => by rw [z, hD] at e; cases e)]; exact e
  have kD : ∀ {b : Addr} {u : HO}, H b = some u -> (∀ ys, u ≠ .lst ys) -> upd H D (.frz o (.lst xs)) b = some u := fun {b u} e n => by rw [upd_ne (fun z => by rw [z, hD] at e; cases e; exact n _ rfl)]; exact e
  refine ⟨I.ok, I.os, I.bare, ⟨I.base.keep, I.base.slot, fun b ob e n hx => nD (I.base.free b ob e n hx), I.base.there, fun b ys e => kD (I.base.tups b ys e) (fun _ z => by cases z), fun b ob u e => kD (I.base.frzs b ob u e) (fun _ z => by cases z), fun b ps e => ?_⟩, I.loc, I.cell, nD I.free, fun x c e => nD (I.freeC x c e), fun p hp => ?_, fun b u e => ?_, I.len⟩
  · obtain ⟨more, q⟩ := I.base.tbls b ps e
    exact ⟨more, kD q fun _ z => by cases z⟩
  · obtain ⟨a1, a2, a3⟩ := I.pin p hp
    exact ⟨a1, nD a2, a3⟩
  · have stay : ∀ {c : Addr} {v : HO}, ObjOk X.prog X.w H s.heap c v -> ObjOk X.prog X.w (upd H D (.frz o (.lst xs))) s.heap c v := fun {c v} q => q.stay (fun _ _ _ z => z) (fun b z => kD z fun _ z' => by cases z') (fun b ys z => kD z fun _ z' => by cases z')
    by_cases hb : b = D
    · subst hb
      rw [upd_same] at e
      cases e
      exact ⟨ho, stay (I.hok b _ hD)⟩
    · rw [upd_ne hb] at e
      exact stay (I.hok b u e)
theorem pix_name {tg : Expr} {i : Nat} {y : Str} {yp : Pos} (hN : X.N[i]? = some y) (hv : Vis X.env.scope y) (hdy : (y == ("__debug__" : Str)) = false := by decide) (hcy : (y == ("__classdict__" : Str)) = false := by decide) : PIX X tg (.Name y yp) (iStr (tVar i)) := by
  intro pins s σ H R I h
  obtain ⟨v, e1, l, rfl, q⟩ := h
  refine thn (name0 (pos := yp) I hN hv e1 hdy hcy) fun u s1 ⟨es, r1, _⟩ => ?_
  subst es
  obtain ⟨t, rfl⟩ := r1
  refine wpAny_pyIter_strU ?_
  refine ⟨s1.heap.objs.size, [s1.heap.objs.size], _, _, H, rfl, I.kept (t' := s1.toks) fun b o e => Heap.get?_push_of_some _ e, turn_strT _ l t, ⟨_, Heap.get?_push_size _ rfl, rfl, rfl⟩, fun b hb => ?_, q, Nat.le_refl _, fun m hn => hn.keeps fun b o e => Heap.get?_push_of_some _ e⟩
  have e : b = s1.heap.objs.size := by simpa using hb
  subst e
  exact I.fpOk (Nat.le_refl _) (I.hok.fresh (Nat.le_refl _))
theorem pix_const {tg : Expr} {x : Str} {kk : Nat} {sq : Pos} (l : List Nat) (hx : x = S l) : PIX X tg (.Constant (.str x) kk sq) (iStr (tC (.str (S l)))) := by
  subst hx
  intro pins s σ H R I h
  obtain ⟨l', e1, q⟩ := h
  have el : S l = S l' := by injection e1
  have I1 : Inv X pins σ H { s with toks := s.toks + 1 } := I.tok _
  refine Calls.Constant_str (k := kk) (pos := sq) ?_
  rw [el]
  refine wpAny_pyIter_strU ?_
  refine ⟨s.heap.objs.size, [s.heap.objs.size], _, _, H, rfl, I1.kept (t' := s.toks + 1) fun b o e => Heap.get?_push_of_some _ e, turn_strT _ l' s.toks, ⟨_, Heap.get?_push_size _ rfl, rfl, rfl⟩, fun b hb => ?_, q, Nat.le_succ _, fun m hn => hn.keeps fun b o e => Heap.get?_push_of_some _ e⟩
  have e : b = s.heap.objs.size := by simpa using hb
  subst e
  exact I1.fpOk (Nat.le_refl _) (I1.hok.fresh (Nat.le_refl _))
theorem ptk_in {Y : Cx} {i : Nat} {x cs : Str} {xp cpos pos : Pos} {kk : Nat} (l : List Nat) (hl : cs = S l) (hN : Y.N[i]? = some x) (hv : Vis Y.env.scope x) (hd : (x == ("__debug__" : Str)) = false := by decide) (hc : (x == ("__classdict__" : Str)) = false := by decide)
    (hm : behindInMarks .In (.Constant (.str cs) kk cpos) = false := by with_unfolding_all rfl) : PTK Y (.Compare (.Name x xp) [.In] [.Constant (.str cs) kk cpos] pos) (tTest (tOp rInS (tVar i) (tC (.str (S l))))) := by
  subst hl
  intro pins s σ H Q I h
  obtain ⟨v, e1, c, l', rfl, e2, k, ek, q⟩ := h
  have el : S l = S l' := by injection e2
  refine wpAny_isTrue_Compare1 (thn (name0 (pos := xp) I hN hv e1 hd hc) fun u s1 ⟨es, r1, _⟩ => ?_) hm
  subst es
  obtain ⟨t, rfl⟩ := r1
  refine Calls.Constant_str (k := kk) (pos := cpos) (in_str (wpAny_truthy_bool ?_))
  have e := StrLaws.found_one (S l') c
  rw [S_list] at e
  rw [el, show (S [c]) = (⟨#[c]⟩ : Str) from rfl, e]
  cases ek
  exact ⟨⟨H, I.tok _, q⟩, rfl⟩
theorem ptk_nin {Y : Cx} {i j : Nat} {x z : Str} {xp zp pos : Pos} (hN : Y.N[i]? = some x) (hv : Vis Y.env.scope x) (hNz : Y.N[j]? = some z) (hvz : Vis Y.env.scope z) (hd : (x == ("__debug__" : Str)) = false := by decide) (hc : (x == ("__classdict__" : Str)) = false := by decide)
    (hdz : (z == ("__debug__" : Str)) = false := by decide) (hcz : (z == ("__classdict__" : Str)) = false := by decide)
    (hm : behindInMarks .NotIn (.Name z zp) = false := by with_unfolding_all rfl) : PTK Y (.Compare (.Name x xp) [.NotIn] [.Name z zp] pos) (tTest (tOp rNinS (tVar i) (tVar j))) := by
  intro pins s σ H Q I h
  obtain ⟨v, e1, v2, e2, c, l', rfl, rfl, k, ek, q⟩ := h
  refine wpAny_isTrue_Compare1 (thn (name0 (pos := xp) I hN hv e1 hd hc) fun u s1 ⟨es, r1, _⟩ => ?_) hm
  subst es
  obtain ⟨t, rfl⟩ := r1
  refine thn (name0 (pos := zp) I hNz hvz e2 hdz hcz) fun u s2 ⟨es, r2, _⟩ => ?_
  subst es
  obtain ⟨t2, rfl⟩ := r2
  refine notIn_str (wpAny_truthy_bool ?_)
  have e := StrLaws.found_one (S l') c
  rw [S_list] at e
  rw [show (S [c]) = (⟨#[c]⟩ : Str) from rfl, e]
  cases ek
  exact ⟨⟨H, I, q⟩, rfl⟩
noncomputable def EPK (X : Cx) (pins : List (Addr × Obj)) (σ : St) (Q : VK) (s : Shared) (u : Value) (s' : Shared) : Prop :=
  ∃ D H' its nn, u = .ref D /\ Inv X pins σ H' s' /\ s'.heap.get? D = some { cls := .type "list", data := .seq (its : List Value).toArray nn } /\ (∀ u ∈ its, Tk s.toks s'.toks u) /\ Kp X s s' /\ Q (.ref D) H'
theorem comp_tok {iter cond : Expr} {xb : Str} {bp xp : Pos} {j : Nat} {scope : Scope} {pos : Pos} {wi : TI} {tc : TT} (Nc : List Str) (ix : List (Option Nat)) (hi : PIX X (.Name xb bp) iter wi) (hix : IxOk X scope Nc ix)
    (hnd : Nc.Nodup) (hjx : Nc[j]? = some xb) (hC : ∀ C s H fp, PTK (cxComp X scope C Nc s H fp) cond tc) (hlx : ∀ C s H fp, (cxComp X scope C Nc s H fp).env.kindOf xb = some .local := by intro _ _ _ _; rfl) (hok : compOk X scope = true := by rfl) (hcalm : X.calm = true := by rfl)
    (hs : ∀ x, foldedSetIterable iter X.env x = pure x := by intro _; rfl) (hdx : (xb == ("__debug__" : Str)) = false := by decide) (hcx : (xb == ("__classdict__" : Str)) = false := by decide)
    {pins : List (Addr × Obj)} {s : Shared} {σ : St} {H : Hp} {Q : VK} (I : Inv X pins σ H s) (h : tComp wi ix (gName j) tc (tVar j) σ H Q) : wpAny (model X.prog X.w) X.A (eval (.ListComp (.Name xb xp) [⟨.Name xb bp, iter, [cond], 0⟩] scope pos) X.env) (EPK X pins σ Q s) X.xe s := by
  obtain ⟨hcell, hkind, hfr, hnames⟩ := compOk_parts hok
  rw [eval_ListComp]
  have hfc : ∀ y ∈ scope.names, y.2 = .free -> ∃ c, X.env.cells.lookup y.1 = some c := fun y hy e => I.ok.has y.1 (hfr y hy e)
  refine wpAny_comprehension_free (use := none) rfl hs (closureFor_cl hfc) hkind hnames (comp_coreK hi hcalm hix hcell hkind hfr hnd hjx hlx hC hdx hcx I h (RR := fun acc C => compPost (model X.prog X.w) X.A X.xe none (EPK X pins σ Q s) acc C) ?_)
  intro D C oC m H' s' its nn eC hn fC I' hDC eD tk kp q
  refine ⟨m, hn, fun h' hs' => ⟨D, H', its, nn, rfl, ?_, (hs'.2 D hDC).trans eD, tk, fun m' hm' => (kp m' hm').sameBut hs' (Ne.symm fC.2.1), q⟩⟩
  exact I'.unpinned.turned (t' := s'.toks) (fun b o hb e => (hs'.2 b hb).trans e) fC.1 fC.2.1 fC.2.2.2.1 fC.2.2.2.2.1 fC.2.2.2.2.2
end
end L2
namespace L2
open PySem PySem.Spec PyProof.Rows
section
variable {X : Cx}
noncomputable def LsTk (lo : Nat) (u : Value) (s' : Shared) : Prop := ∃ q its nn, u = .ref q /\ s'.heap.get? q = some { cls := .type "list", data := .seq (its : List Value).toArray nn } /\ ∀ v ∈ its, Tk lo s'.toks v
theorem sorted_tok {pins : List (Addr × Obj)} {s : Shared} {σ : St} {H : Hp} {D : Addr} {its : List Value} {nn lo : Nat} {Q : VK} (I : Inv X pins σ H s) (eD : s.heap.get? D = some { cls := .type "list", data := .seq its.toArray nn }) (tk : ∀ u ∈ its, Tk lo s.toks u) (h : rSortL X.K [.ref D] H Q) :
    wpAny (model X.prog X.w) X.A (call (.builtin "sorted") [.ref D]) (fun u s' => EP X pins σ Q u s' /\ LsTk lo u s') X.xe s := by
  obtain ⟨p, ls, hp, hq, hn, q⟩ := id h
  cases hp
  obtain ⟨its2, rv, pl, hz⟩ := I.list hq
  have hlen : its2.length = ls.length := by rw [<- rv.length, List.length_map]
  have e2 : its2 = its := by
    obtain ⟨o, ho, hc, m, hd⟩ := pl.isList
    rw [eD] at ho
    cases ho
    have := congrArg Array.toList (Data.seq.inj hd).1
    simpa using this.symm
  subst e2
  have r0 : Vals [V.ref D] [Value.ref D] := .cons (show RelV (.ref D) (.ref D) from rfl) .nil
  refine wpAny_mono (wpAny_and (E := X.xe) (E' := X.xe) (call_sortedK X.K rfl pins s σ H _ _ Q I r0 h) ?_) (fun _ _ z => z) fun _ _ z => z.1
  have hS := strs_of rv
  refine sortedK strKind_oneLt pl.isList hS.keysOf (fun v₁ v₂ rest e => keyKind_strs (by rw [<- e]; exact hS)) (by omega) fun st' hp hs => ?_
  obtain ⟨e, he⟩ := sortedAll_at s.heap its2 ((arrOf st').map (·.2))
  refine ⟨_, ((arrOf st').map (·.2)).toList, e, rfl, by rw [Array.toArray_toList]; exact he, fun v hv => ?_⟩
  have hl : (arrOf st').toList.Perm (its2.zip its2) := by rw [<- pairsOf_toList]; exact Array.perm_iff_toList_perm.mp hp
  rw [Array.toList_map] at hv
  obtain ⟨pp, hpp, rfl⟩ := List.mem_map.mp hv
  have := mem_zip_self (hl.mem_iff.mp hpp)
  exact tk _ (this.1 ▸ this.2)
theorem pssv_retSorted {n : Nat} {iter cond : Expr} {xb : Str} {bp xp p pos pos' cpos : Pos} {j : Nat} {scope : Scope} {wi : TI} {tc : TT} (Nc : List Str) (ix : List (Option Nat)) (hg : Gl X "sorted") (hm : X.mg "sorted" = none) (hi : PIX X (.Name xb bp) iter wi) (hix : IxOk X scope Nc ix)
    (hnd : Nc.Nodup) (hjx : Nc[j]? = some xb) (hC : ∀ C s H fp, PTK (cxComp X scope C Nc s H fp) cond tc) (hlx : ∀ C s H fp, (cxComp X scope C Nc s H fp).env.kindOf xb = some .local := by intro _ _ _ _; rfl) (hok : compOk X scope = true := by rfl) (hcalm : X.calm = true := by rfl)
    (hs : ∀ x, foldedSetIterable iter X.env x = pure x := by intro _; rfl) (hdx : (xb == ("__debug__" : Str)) = false := by decide) (hcx : (xb == ("__classdict__" : Str)) = false := by decide) :
    PSsV X n (LsTk n) [.Return (some (.Call (.Name "sorted" p) [.ListComp (.Name xb xp) [⟨.Name xb bp, iter, [cond], 0⟩] scope cpos] [] pos)) pos'] (tRet (tCB (rSortL X.K) (tCons (tComp wi ix (gName j) tc (tVar j)) tNil))) := by
  intro pins s σ H D I hn h
  refine wpAny_execs_cons (wpAny_Return_some (wpAny_Call_Name_kw (ld_blt I hg hm boot_sorted ?_ (by decide) (by decide))))
  refine PyProof.Rows.callWith_builtin1 ?_ rfl rfl
  refine Calls.spliced_cons (thn (comp_tok Nc ix hi hix hnd hjx hC hlx hok hcalm hs hdx hcx I h) fun u s1 ⟨D', H1, its, nn, e, I1, eD, tk, kp, q⟩ => Calls.spliced_nil ?_)
  subst e
  refine thn (sorted_tok (lo := n) I1 eD (fun u hu => (tk u hu).mono hn (Nat.le_refl _)) q) fun u s2 ⟨⟨v, H2, I2, r2, q2⟩, ls⟩ => ?_
  exact ⟨⟨v, σ, H2, I2, r2, q2⟩, ls⟩
theorem call1V {k : Nat} {f : Addr} {fd : FuncData} {ps : List Str} {sp : Sp} {E : XK} {post : Shared -> Value -> Shared -> Prop} {fx y : Str} {p pos yp : Pos} {i : Nat} {v : V} {pins : List (Addr × Obj)} {s : Shared} {σ : St} {H : Hp} {Q : VK}
    (F : FnOkV X.prog X.w X.K X.mg X.base k f fd ps sp post) (hr : Room k X.A) (hg : Gl X fx) (hm : X.mg fx = some (.ref f)) (hk : PySem.W.keepIn X.K (.ref f) = true) (hb : Binds X.K fd ps [])
    (hN : X.N[i]? = some y) (hv : Vis X.env.scope y) (hdy : (y == ("__debug__" : Str)) = false) (hcy : (y == ("__classdict__" : Str)) = false) (hdb : (fx == ("__debug__" : Str)) = false)
    (I : Inv X pins σ H s) (e : σ[i]? = some (some v)) (h : sp [v] H Q E) :
    wpAny (model X.prog X.w) X.A (eval (.Call (.Name fx p) [.Name y yp] [] pos) X.env) (fun u s' => EP X pins σ Q u s' /\ post s u s' /\ Kp X s s' /\ s.toks <= s'.toks) X.xe s := by
  refine wpAny_Call_Name_kw (ld_glob I hg hm ?_ hdb)
  refine PySem.W.callWith_K (h₀ := X.base) I.ok.mod.kin hk (Q := fun u s' => EP X pins σ Q u s' /\ post s u s' /\ Kp X s s' /\ s.toks <= s'.toks) (Calls.spliced_cons (thn (name0 I hN hv e hdy hcy) fun u s1 ⟨e1, r1, _⟩ => Calls.spliced_nil ?_)) rfl rfl
  subst e1
  refine ⟨I.kIn, ?_⟩
  have hl : ([u] : List Value).length = ps.length := by have := F.len _ _ _ _ h; simpa using this
  have hb' := hb s1 [u] I.kIn (by simpa using hl)
  rw [List.append_nil] at hb'
  refine wpAny_call (codeAny_mono (codeAny_toks_of (Nat.le_refl _) (F.run X.A X.stack s1 H ⟨[u], []⟩ [u] [v] Q E hr I.env0 hb' (.cons r1 .nil) h)) fun r s' ⟨hle, hq, hp⟩ => ?_)
  cases r with
  | error e => exact False.elim hq
  | ok fl =>
    cases fl with
    | ret u =>
      obtain ⟨_, _, _, _, un, _⟩ := id hq
      exact ⟨I.after hq, hp u rfl, Kp.un I un (by simp), hle⟩
    | next => exact False.elim hq
    | brk => exact False.elim hq
    | cont => exact False.elim hq
theorem call2K {k : Nat} {f : Addr} {fd : FuncData} {ps : List Str} {sp : Sp} {E : XK} {fx y : Str} {p pos yp cp : Pos} {kk : Nat} {i : Nat} {c : Int} {v : V} {pins : List (Addr × Obj)} {s : Shared} {σ : St} {H : Hp} {Q : VK}
    (F : FnOk X.prog X.w X.K X.mg X.base CX0 k f fd ps sp) (hr : Room k X.A) (hg : Gl X fx) (hm : X.mg fx = some (.ref f)) (hk : PySem.W.keepIn X.K (.ref f) = true) (hb : Binds X.K fd ps [])
    (hN : X.N[i]? = some y) (hv : Vis X.env.scope y) (hdy : (y == ("__debug__" : Str)) = false) (hcy : (y == ("__classdict__" : Str)) = false) (hdb : (fx == ("__debug__" : Str)) = false)
    (I : Inv X pins σ H s) (e : σ[i]? = some (some v)) (h : sp [v, .int c] H Q E) :
    wpAny (model X.prog X.w) X.A (eval (.Call (.Name fx p) [.Name y yp, .Constant (.int c) kk cp] [] pos) X.env) (fun u s' => EP X pins σ Q u s' /\ Kp X s s') X.xe s := by
  refine wpAny_Call_Name_kw (ld_glob I hg hm ?_ hdb)
  refine PySem.W.callWith_K (h₀ := X.base) I.ok.mod.kin hk (Q := fun u s' => EP X pins σ Q u s' /\ Kp X s s') (Calls.spliced_cons (thn (name0 I hN hv e hdy hcy) fun u s1 ⟨e1, r1, _⟩ => Calls.spliced_cons (wpAny_Constant_int (k := kk) (pos := cp) (Calls.spliced_nil ?_)))) rfl rfl
  subst e1
  have I1 : Inv X pins σ H { s1 with toks := s1.toks + 1 } := I.tok _
  refine ⟨I1.kIn, ?_⟩
  have hl : ([u, .int c s1.toks] : List Value).length = ps.length := by have := F.len _ _ _ _ h; simpa using this
  have hb' := hb { s1 with toks := s1.toks + 1 } [u, .int c s1.toks] I1.kIn (by simpa using hl)
  rw [List.append_nil] at hb'
  refine wpAny_call (codeAny_mono (F.run X.A X.stack { s1 with toks := s1.toks + 1 } H ⟨[u, .int c s1.toks], []⟩ [u, .int c s1.toks] [v, .int c] Q E hr I1.env0 hb' (.cons r1 (.cons ⟨_, rfl⟩ .nil)) h) fun r s' hq => ?_)
  cases r with
  | error e => exact False.elim hq
  | ok fl =>
    cases fl with
    | ret u =>
      obtain ⟨_, _, _, _, un, _⟩ := id hq
      exact ⟨I1.after hq, Kp.un (s := { s1 with toks := s1.toks + 1 }) I1 un (by simp)⟩
    | next => exact False.elim hq
    | brk => exact False.elim hq
    | cont => exact False.elim hq
end
end L2
namespace L2
open PySem PySem.Spec PyProof.Rows
noncomputable def rp (c f : Nat) (l : List Nat) : List Nat := l.map fun d => if d = c then f else d
theorem join_rp (c f : Nat) : ∀ l : List Nat, joinc f (spl c l) = rp c f l
  | [] => rfl
  | d :: r => by
    have ih := join_rp c f r
    obtain ⟨p, ps, e⟩ := spl_ne c r
    rw [e] at ih
    unfold spl rp
    rw [List.map_cons]
    by_cases h : d = c
    · rw [if_pos h, if_pos h, e]
      show [] ++ f :: joinc f (p :: ps) = _
      rw [ih]; rfl
    · rw [if_neg h, if_neg h, e]
      show joinc f ((d :: p) :: ps) = d :: rp c f r
      rw [<- ih]
      cases ps with
      | nil => rfl
      | cons q qs => rfl
theorem ats_rp (c f : Nat) : ∀ (l : List Nat) (a : Nat), ats c a l = [] -> rp c f l = l
  | [], _, _ => rfl
  | d :: r, a, h => by
    unfold ats at h
    by_cases e : d = c
    · rw [if_pos e] at h; cases h
    · rw [if_neg e] at h
      unfold rp
      rw [List.map_cons, if_neg e]
      congr 1
      exact ats_rp c f r (a + 1) h
theorem replace_rp (l : List Nat) (c f : Nat) : Txt.replace (S l) (S [c]) (S [f]) = S (rp c f l) := by
  unfold Txt.replace
  have e0 : (S l).length + 1 = l.length + 1 := by rw [S_len]
  have e1 : (S [c]).length = 1 := by rw [S_len]; rfl
  have hp := split_S l c (l.length + 1) (Nat.lt_succ_self _)
  have ho := occ_all l c (l.length + 1) (Nat.lt_succ_self _)
  rw [e0, e1, hp, ho]
  split
  · rename_i h
    have h' : (ats c 0 l).isEmpty = true := by simpa using h
    rw [ats_rp c f l 0 (List.isEmpty_iff.mp h')]
  · rw [glued_S, join_rp]
section
variable {X : Cx}
theorem store_tok {E : Value -> Shared -> Prop} {pins : List (Addr × Obj)} {s : Shared} {σ : St} {H : Hp} {i : Nat} {x : Str} {v : V} {u : Value} (I : Inv X pins σ H s) (hN : X.N.Nodup) (hi : X.N[i]? = some x) (hx : X.env.kindOf x = some .local) (hf : X.fn x = true \/ X.env.scope.names.lookup x = some .local) (r : RelV v u) :
    wpAny (model X.prog X.w) X.A (storeName X.env x u) (fun _ s' => Inv X pins (σ.set i (some v)) H s' /\ s'.toks = s.toks + 1 /\ ∀ m, s.heap.Ns X.env.locals m -> s'.heap.Ns X.env.locals (fun y => if y = x then some u else m y)) E s := by
  obtain ⟨m0, hn0, _⟩ := id I.loc
  have hcls : (X.env.scope.kind == .class || (X.env.scope.kind == .module && X.env.locals != X.env.globals)) = false := by rw [I.ok.kind]; rfl
  have each : ∀ m, s.heap.Ns X.env.locals m -> m = m0 := fun m hm => funext fun y => ns_same hm hn0 y
  refine wpAny_mono (wpAny_and (Q := fun _ s' => Inv X pins (σ.set i (some v)) H s') (Q' := fun _ s' => s'.toks = s.toks + 1 /\ s'.heap.Ns X.env.locals (fun y => if y = x then some u else m0 y)) (E := E) (E' := E)
    (store_ok I hN hi (.inl hx) r (fun s' I' => I') hf) (wpAny_storeName_local hx hn0 (fun h' hn' _ => ⟨rfl, hn'⟩) hcls)) (fun _ s' ⟨a, b, c⟩ => ⟨a, b, fun m hm => by rw [each m hm]; exact c⟩) fun _ _ z => z.1
theorem item_tok {value slice : Expr} {pins : List (Addr × Obj)} {s : Shared} {σ : St} {H : Hp} {q : Addr} {its : List Value} {nn : Nat} {ls : List Nat} {k : Int} {c lo hi : Nat} {t : Tok} {o : Obj} (I : Inv X pins σ H s) (hq : H q = some (.frz o (.lst (sgs ls)))) (eo : o = { cls := .type "list", data := .seq its.toArray nn }) (tk : ∀ u ∈ its, Tk lo hi u) (hk : atI ls k = some c) (hk0 : 0 <= k) (hl : ls.length <= 1000)
    (hs : subscripted slice false (.ref q) (.int k t) = operate [.ref q, .int k t] (getItem (.ref q) (.int k t))) :
    wpAny (model X.prog X.w) X.A (subscriptTail value slice (.ref q) (.int k t)) (fun u s' => s' = s /\ RelV (.str (S [c])) u /\ Tk lo hi u) X.xe s := by
  subst eo
  obtain ⟨e1, _, its2, n2, rv, e2⟩ := (show ObjOk X.prog X.w H s.heap q (.frz _ (.lst (sgs ls))) from I.hok q _ hq)
  have ei : its2 = its := by
    rw [e1] at e2
    have := congrArg (fun o : Obj => o.data) (Option.some.inj e2)
    have h2 := congrArg Array.toList (Data.seq.inj this).1
    simpa using h2.symm
  subst ei
  obtain ⟨j, h1, h2, h3, h4, h5⟩ := atI_get hk
  have hj : k.toNat = j := by rw [seqIndex_of hk0 h5] at h1; exact Option.some.inj h1
  have hv : (sgs ls)[j]? = some (.str (S [c])) := by unfold sgs; rw [List.getElem?_map, h2]; rfl
  obtain ⟨w, ew, rw'⟩ := rv.get hv
  have hlen : ls.length < 2 ^ 63 := by omega
  refine item_listR (items := its2.toArray) (x := w) ⟨_, e1, rfl, _, rfl⟩ hk0 (by omega) (by rw [hj]; simpa using ew) ⟨rfl, rw', tk w (List.mem_of_getElem? ew)⟩ hs
end
end L2
namespace L2
open PySem PySem.Spec PyProof.Rows
section
variable {X : Cx}
theorem set_at {α : Type} {l : List α} {i j : Nat} {a b : α} (h : l[j]? = some b) (ne : i ≠ j) : (l.set i a)[j]? = some b := by rw [List.getElem?_set, if_neg ne]; exact h
theorem set_self {α : Type} {l : List α} {i : Nat} {a : α} (h : i < l.length) : (l.set i a)[i]? = some a := List.getElem?_set_self h
noncomputable def tOY (spB spT spO : Sp) (tI1 tcp : TE) (many : Int) : TS := fun D σ H => ∃ vb y, σ[0]? = some (some vb) /\ σ[1]? = some (some (.str (S y))) /\ y.length <= 1000 /\
  spB [.str (S y)] H (fun x H1 => ∃ q ls, x = .ref q /\ H1 q = some (.lst (sgs ls)) /\ ls.length <= 1000 /\ ∀ o,
    tI1 (σ.set 2 (some (.ref q))) (upd H1 q (.frz o (.lst (sgs ls)))) (fun i H3 => ∃ k c, i = .int k /\ H3 q = some (.frz o (.lst (sgs ls))) /\ atI ls k = some c /\ 0 <= k /\
      tcp ((σ.set 2 (some (.ref q))).set 3 (some (.str (S [c])))) H3 (fun d H4 => ∃ dd fr, d = .ref dd /\ H4 dd = some (.lst (sgs fr)) /\ fr.length <= 1000 /\ ∀ o2,
        spT [vb, .int many] (upd H4 dd (.frz o2 (.lst (sgs fr)))) (fun i2 H5 => ∃ k2 f, i2 = .int k2 /\ H5 dd = some (.frz o2 (.lst (sgs fr))) /\ atI fr k2 = some f /\ 0 <= k2 /\ c ≠ f /\
          spO [.str (S [c])] H5 (fun x1 H6 => ∃ c', x1 = .str (S [c']) /\ spO [.str (S [f])] H6 (fun x2 H7 => ∃ f', x2 = .str (S [f']) /\ c' ≠ f' /\ D.rt (.str (S (rp c' f' (rp c f y)))) H7) E0) E0) E0))) E0
theorem S_ne1 {c f : Nat} (h : c ≠ f) : (S [c] == S [f]) = false := by
  rw [beq_eq_false_iff_ne]
  intro z
  have e := congrArg (fun t : Str => t.cps.toList) z
  have e2 : (S [c]).cps.toList = (S [f]).cps.toList := e
  rw [S_list, S_list] at e2
  exact h (List.cons.inj e2).1
theorem rp_len (c f : Nat) (l : List Nat) : (rp c f l).length = l.length := by unfold rp; rw [List.length_map]
theorem pss_oy {kB kT kO : Nat} {fB fT fO : Addr} {dB dT dO : FuncData} {pB pT pO : List Str} {spB spT spO : Sp} {xB xT xO yb yy yn yd yf yo : Str}
    {iter cond idx1 : Expr} {xb : Str} {bp xp : Pos} {j : Nat} {scope : Scope} {cpos : Pos} {wi : TI} {tc : TT} {tI1 : TE} {many : Int} (Nc : List Str) (ix : List (Option Nat))
    {p1 p2 p3 p4 p5 p6 p7 p8 p9 p10 p11 p12 p13 p14 p15 p16 p17 p18 p19 p20 p21 p22 p23 p24 p25 p26 p27 q1 q2 q3 q4 q5 q6 : Pos} {kk : Nat}
    (FB : FnOkV X.prog X.w X.K X.mg X.base kB fB dB pB spB (fun s u s' => LsTk (s.toks + 1) u s')) (FT : FnOk X.prog X.w X.K X.mg X.base CX0 kT fT dT pT spT) (FO : FnOkV X.prog X.w X.K X.mg X.base kO fO dO pO spO (fun s u s' => Tk (s.toks + 1) s'.toks u))
    (rB : Room kB X.A) (rT : Room kT X.A) (rO : Room kO X.A) (gB : Gl X xB) (gT : Gl X xT) (gO : Gl X xO) (mB : X.mg xB = some (.ref fB)) (mT : X.mg xT = some (.ref fT)) (mO : X.mg xO = some (.ref fO))
    (KB : PySem.W.keepIn X.K (.ref fB) = true) (KT : PySem.W.keepIn X.K (.ref fT) = true) (KO : PySem.W.keepIn X.K (.ref fO) = true) (bB : Binds X.K dB pB []) (bT : Binds X.K dT pT []) (bO : Binds X.K dO pO [])
    (hN : X.N.Nodup) (n0 : X.N[0]? = some yb) (n1 : X.N[1]? = some yy) (n2 : X.N[2]? = some yn) (n3 : X.N[3]? = some yd) (n4 : X.N[4]? = some yf) (n5 : X.N[5]? = some yo)
    (v0 : Vis X.env.scope yb) (v1 : Vis X.env.scope yy) (l2 : X.env.kindOf yn = some .local) (l3 : X.env.kindOf yd = some .local) (l4 : X.env.kindOf yf = some .local) (l5 : X.env.kindOf yo = some .local)
    (f2 : X.fn yn = true \/ X.env.scope.names.lookup yn = some .local) (f3 : X.fn yd = true \/ X.env.scope.names.lookup yd = some .local) (f4 : X.fn yf = true \/ X.env.scope.names.lookup yf = some .local) (f5 : X.fn yo = true \/ X.env.scope.names.lookup yo = some .local)
    (hI1 : PE X idx1 tI1) (hs1 : PlainIx idx1) (hs2 : PlainIx (.Call (.Name xT p8) [.Name yb p9, .Constant (.int many) kk p10] [] p11))
    (hi : PIX X (.Name xb bp) iter wi) (hix : IxOk X scope Nc ix) (hnd : Nc.Nodup) (hjx : Nc[j]? = some xb) (hC : ∀ C s H fp, PTK (cxComp X scope C Nc s H fp) cond tc)
    (hsw2 : swapsWith (.Subscript (.Name yn p5) idx1 p6) (some (.Name yd p7)) p4.line X.env = pure false := by rfl)
    (hlx : ∀ C s H fp, (cxComp X scope C Nc s H fp).env.kindOf xb = some .local := by intro _ _ _ _; rfl) (hok : compOk X scope = true := by rfl) (hcalm : X.calm = true := by rfl)
    (hfs : ∀ x, foldedSetIterable iter X.env x = pure x := by intro _; rfl) (hdx : (xb == ("__debug__" : Str)) = false := by decide) (hcx : (xb == ("__classdict__" : Str)) = false := by decide)
    (hdb : (xB == ("__debug__" : Str)) = false /\ (xT == ("__debug__" : Str)) = false /\ (xO == ("__debug__" : Str)) = false := by decide)
    (hd : ∀ z ∈ [yb, yy, yn, yd, yf, yo], (z == ("__debug__" : Str)) = false /\ (z == ("__classdict__" : Str)) = false := by decide)
    (hline4 : (p16.endLine == p19.line) = true := by rfl) (hline5 : (p22.endLine == p27.line) = true := by rfl) (hne : yd ≠ yf := by decide) :
    PSs X [.Assign [.Name yn p1] (.Call (.Name xB p2) [.Name yy p3] [] p12) p13,
      .Assign [.Name yd p7] (.Subscript (.Name yn p5) idx1 p6) p4,
      .Assign [.Name yf p14] (.Subscript (.ListComp (.Name xb xp) [⟨.Name xb bp, iter, [cond], 0⟩] scope cpos) (.Call (.Name xT p8) [.Name yb p9, .Constant (.int many) kk p10] [] p11) p15) p20,
      .Assign [.Name yo p21] (.Call (.Attribute (.Name yy p23) "replace" p16) [.Name yd p17, .Name yf p18] [] p19) p24,
      .Return (some (.Call (.Attribute (.Name yo p25) "replace" p22) [.Call (.Name xO q1) [.Name yd q2] [] q3, .Call (.Name xO q4) [.Name yf q5] [] q6] [] p27)) p26] (tOY spB spT spO tI1 (tComp wi ix (gName j) tc (tVar j)) many) := by
  intro pins s σ H D I h
  obtain ⟨vb, y, e0, e1, hy, h⟩ := h
  have hlen : 5 < σ.length := by rw [I.len]; exact (List.getElem?_eq_some_iff.mp n5).1
  obtain ⟨d0, d0'⟩ := hd yb (by simp)
  obtain ⟨d1, d1'⟩ := hd yy (by simp)
  obtain ⟨d2, d2'⟩ := hd yn (by simp)
  obtain ⟨d3, d3'⟩ := hd yd (by simp)
  obtain ⟨d4, d4'⟩ := hd yf (by simp)
  obtain ⟨d5, d5'⟩ := hd yo (by simp)
  -- names
  refine wpAny_execs_cons (wpAny_Assign_Name (thn (call1V FB rB gB mB KB bB n1 v1 d1 d1' hdb.1 I e1 h) fun u s1 ⟨⟨x, H1, I1, r1, q, ls, ex, hq, hl, h1⟩, ⟨q', its, nn, eu, eq, tk⟩, _, _⟩ => ?_) rfl)
  subst ex
  cases r1
  cases eu
  refine thn (store_tok (E := X.xe) (I1.freeze hq eq) hN n2 l2 f2 (v := .ref q) rfl) fun _ s2 ⟨I2, t2, ns2⟩ => ?_
  -- band
  refine wpAny_execs_cons (wpAny_Assign_Name (Subscript_ ?_) hsw2)
  refine thn (name0 (pos := p5) I2 n2 (.inl l2) (set_self (by omega)) d2 d2') fun u2 s3 ⟨es, r3, _⟩ => ?_
  subst es
  cases r3
  refine thnT (hI1 pins s3 _ _ _ I2 (h1 _)) fun u3 s4 ⟨k4, i, H3, I3, ri, k, c, ei, hq3, hk, hk0, h2⟩ => ?_
  subst ei
  obtain ⟨t, rfl⟩ := ri
  refine thn (item_tok I3 hq3 rfl tk hk hk0 hl (hs1 _ _)) fun u4 s5 ⟨es, r5, tk5⟩ => ?_
  subst es
  obtain ⟨m3, hn3, _⟩ := id I3.loc
  refine thn (store_tok (E := X.xe) I3 hN n3 l3 f3 r5) fun _ s6 ⟨I6, t6, ns6⟩ => ?_
  have nb6 := ns6 m3 hn3
  obtain ⟨zb, tb, eb, hb1, hb2⟩ := tk5
  have htb : tb < s6.toks := Nat.lt_of_lt_of_le hb2 (by omega)
  have htb0 : tb ≠ 0 := Nat.ne_of_gt (Nat.lt_of_lt_of_le (Nat.succ_pos _) hb1)
  -- fresh
  refine wpAny_execs_cons (wpAny_Assign_Name (Subscript_ ?_) rfl)
  refine thnT (comp_tok Nc ix hi hix hnd hjx hC hlx hok hcalm hfs hdx hcx I6 h2) fun u7 s7 ⟨k7, D', H7, its2, nn2, eD', I7, eD, tk7, kp7, dd, fr, ed, hd7, hfl, h3⟩ => ?_
  subst eD'
  cases ed
  have σ6len : ((σ.set 2 (some (V.ref q))).set 3 (some (V.str (S [c])))).length = σ.length := by rw [List.length_set, List.length_set]
  refine thnT (call2K FT rT gT mT KT bT n0 v0 d0 d0' hdb.2.1 (I7.freeze hd7 eD) (set_at (set_at e0 (by decide)) (by decide)) (h3 _)) fun u8 s8 ⟨k8, ⟨i2, H8, I8, ri2, k2, f, ei2, hd8, hf, hf0, hcf, h4⟩, kp8⟩ => ?_
  subst ei2
  obtain ⟨t2', rfl⟩ := ri2
  refine thn (item_tok I8 hd8 rfl tk7 hf hf0 hfl (hs2 _ _)) fun u9 s9 ⟨es, r9, tk9⟩ => ?_
  subst es
  have nb9 : s9.heap.Ns X.env.locals _ := kp8 _ (kp7 _ nb6)
  refine thn (store_tok (E := X.xe) I8 hN n4 l4 f4 r9) fun _ sA ⟨IA, tA, nsA⟩ => ?_
  have nbA := nsA _ nb9
  obtain ⟨zf, tf, ef, hf1, hf2⟩ := tk9
  have htf0 : tf ≠ 0 := Nat.ne_of_gt (Nat.lt_of_lt_of_le (Nat.lt_of_le_of_lt (Nat.zero_le _) htb) hf1)
  have hne2 : tb ≠ tf := Nat.ne_of_lt (Nat.lt_of_lt_of_le htb hf1)
  generalize hσA : (((σ.set 2 (some (V.ref q))).set 3 (some (V.str (S [c])))).set 4 (some (V.str (S [f])))) = σA at IA
  have a1 : σA[1]? = some (some (.str (S y))) := by rw [<- hσA]; exact set_at (set_at (set_at e1 (by decide)) (by decide)) (by decide)
  have a3 : σA[3]? = some (some (.str (S [c]))) := by rw [<- hσA]; exact set_at (set_self (by rw [List.length_set]; omega)) (by decide)
  have a4 : σA[4]? = some (some (.str (S [f]))) := by rw [<- hσA]; exact set_self (by rw [σ6len]; omega)
  have alen : σA.length = σ.length := by rw [<- hσA, List.length_set, σ6len]
  -- found
  refine wpAny_execs_cons (wpAny_Assign_Name (wpAny_Call_method_late rfl rfl hline4 rfl (thn (name0 (pos := p23) IA n1 v1 a1 d1 d1') fun uy sB ⟨es, ry, _⟩ => ?_)) rfl)
  subst es
  obtain ⟨ty, rfl⟩ := ry
  have hty := tyV_is (T := "str") (x := .str (S y)) IA ⟨ty, rfl⟩ (by first | rfl | trivial | exact ⟨_, rfl⟩)
  refine ⟨"str", "str.replace", PySem.F.plainAttrs_str, PySem.F.slot_str_replace, PySem.F.type_str_replace, hty.1, hty.2, ?_⟩
  refine Calls.callWith_builtin rfl (Calls.evalArgs_plain ?_)
  refine Calls.spliced_cons (thn (name0 (pos := p17) IA n3 (.inl l3) a3 d3 d3') fun ud sC ⟨es, rd, md⟩ => ?_)
  subst es
  refine Calls.spliced_cons (thn (name0 (pos := p18) IA n4 (.inl l4) a4 d4 d4') fun uf sC ⟨es, rf, mf⟩ => Calls.spliced_nil ?_)
  subst es
  have eud : some ud = some u4 := (md l3 _ nbA).symm.trans (by rw [if_neg hne, if_pos rfl])
  have euf : some uf = some u9 := (mf l4 _ nbA).symm.trans (by rw [if_pos rfl])
  cases eud
  cases euf
  subst eb ef
  obtain ⟨_, ezb⟩ := rd
  obtain ⟨_, ezf⟩ := rf
  cases ezb
  cases ezf
  refine SC.replace (x := S y) (y := S [c]) (z := S [f]) htb0 htf0 hne2 (S_ne1 hcf) (by rw [S_len, S_len]; simp; omega) fun t' kx => ?_
  rw [replace_rp]
  have IC : Inv X pins σA H8 { sC with toks := kx } := (IA.tok _).tok _
  refine thn (store_ok (Q := fun _ s' => Inv X pins (σA.set 5 (some (.str (S (rp c f y))))) H8 s') (E := X.xe) IC hN n5 (.inl l5) (show RelV (.str (S (rp c f y))) (Value.str (S (rp c f y)) t') from ⟨_, rfl⟩) (fun s' I' => I') f5) fun _ sD ID => ?_
  have b5 : (σA.set 5 (some (V.str (S (rp c f y)))))[5]? = some (some (.str (S (rp c f y)))) := set_self (by omega)
  -- the last row
  refine wpAny_execs_cons (wpAny_Return_some (wpAny_Call_method_late rfl rfl hline5 rfl (thn (name0 (pos := p25) ID n5 (.inl l5) b5 d5 d5') fun uo sE ⟨es, ro, _⟩ => ?_)))
  subst es
  obtain ⟨to, rfl⟩ := ro
  have hty2 := tyV_is (T := "str") (x := .str (S (rp c f y))) ID ⟨to, rfl⟩ (by first | rfl | trivial | exact ⟨_, rfl⟩)
  refine ⟨"str", "str.replace", PySem.F.plainAttrs_str, PySem.F.slot_str_replace, PySem.F.type_str_replace, hty2.1, hty2.2, ?_⟩
  refine Calls.callWith_builtin rfl (Calls.evalArgs_plain ?_)
  refine Calls.spliced_cons (thn (call1V FO rO gO mO KO bO n3 (.inl l3) d3 d3' hdb.2.2 ID (set_at a3 (by decide)) h4) fun g1 sF ⟨⟨x1, H9, IF, rg1, c', ex1, h5⟩, ⟨z1, t1, eg1, hg1, hg1'⟩, _, kF⟩ => ?_)
  subst ex1
  refine Calls.spliced_cons (thn (call1V FO rO gO mO KO bO n4 (.inl l4) d4 d4' hdb.2.2 IF (set_at a4 (by decide)) h5) fun g2 sG ⟨⟨x2, HA, IG, rg2, f', ex2, hcf', h6⟩, ⟨z2, t2'', eg2, hg2, hg2'⟩, _, kG⟩ => Calls.spliced_nil ?_)
  subst ex2
  subst eg1 eg2
  obtain ⟨_, ez1⟩ := rg1
  obtain ⟨_, ez2⟩ := rg2
  cases ez1
  cases ez2
  refine SC.replace (x := S (rp c f y)) (y := S [c']) (z := S [f']) (Nat.ne_of_gt (Nat.lt_of_lt_of_le (Nat.succ_pos _) hg1)) (Nat.ne_of_gt (Nat.lt_of_lt_of_le (Nat.succ_pos _) hg2)) (Nat.ne_of_lt (Nat.lt_of_lt_of_le hg1' (Nat.le_trans (Nat.le_succ _) hg2))) (S_ne1 hcf') (by rw [S_len, S_len, rp_len]; simp; omega) fun t' kx => ?_
  rw [replace_rp]
  exact ⟨.str (S (rp c' f' (rp c f y))), _, HA, (IG.tok _).tok _, ⟨_, rfl⟩, h6⟩
end
end L2
namespace L2
open PySem PySem.Spec PyProof.Rows
section
variable {X : Cx}
noncomputable def rIsListB : List V -> Hp -> VK -> Prop := fun xs H Q => ∃ x, xs = [x, .ty "list"] /\ ((∃ p ys, x = .ref p /\ H p = some (.lst ys) /\ Q (.bl true) H) \/ ∃ b, x = .bl b /\ Q (.bl false) H)
theorem call_isListB (K : PySem.W.Frag) (h : X.K = K) : CallR X (.builtin "isinstance") rIsListB := by
  subst h
  intro pins s σ H xs us Q I r h
  obtain ⟨x, rfl, h⟩ := h
  obtain ⟨u, w', rfl, r1, r2⟩ := vals2 r
  cases (show w' = Value.type "list" from r2)
  rcases h with ⟨p, ys, rfl, hq, q⟩ | ⟨b, rfl, q⟩
  · exact isinst_ok I r1 (.lst hq) (by unfold PySem.W.kitOne; rw [if_pos (by decide)]) fun tk => ⟨.bl true, H, I.tok _, rfl, q⟩
  · exact isinst_ok I r1 (.bl b) (b := false) (by unfold PySem.W.kitOne; rw [if_neg (by decide)]; rfl) fun tk => ⟨.bl false, H, I.tok _, rfl, q⟩
end
end L2
set_option maxHeartbeats 4000000
namespace My
open PySem PySem.Spec PyProof.Rows L2 XL
noncomputable def smalls : List Nat := [97, 98, 99, 100, 101, 102, 103, 104, 105, 106, 107, 108, 109, 110, 111, 112, 113, 114, 115, 116, 117, 118, 119, 120, 121, 122]
noncomputable def caps : List Nat := [65, 66, 67, 68, 69, 70, 71, 72, 73, 74, 75, 76, 77, 78, 79, 80, 81, 82, 83, 84, 85, 86, 87, 88, 89, 90]
noncomputable def Lt (c : Nat) : Prop := c ∈ smalls \/ c ∈ caps
noncomputable instance (c : Nat) : Decidable (Lt c) := by unfold Lt; infer_instance
noncomputable def ctr (c : Nat) : Nat := if isLow c = true then PyProof.Rows.up1 c else PyProof.Rows.lo1 c
theorem lt_all : ∀ c ∈ smalls ++ caps, c < 128 /\ ctr c ∈ smalls ++ caps /\ ctr (ctr c) = c /\ ctr c ≠ c := by decide +kernel
theorem Lt.mem {c : Nat} (h : Lt c) : c ∈ smalls ++ caps := List.mem_append.mpr h
theorem Lt.lt {c : Nat} (h : Lt c) : c < 128 := (lt_all c h.mem).1
theorem Lt.ctr {c : Nat} (h : Lt c) : Lt (ctr c) := List.mem_append.mp (lt_all c h.mem).2.1
theorem ctr_ctr {c : Nat} (h : Lt c) : ctr (ctr c) = c := (lt_all c h.mem).2.2.1
theorem ctr_ne {c : Nat} (h : Lt c) : ctr c ≠ c := (lt_all c h.mem).2.2.2
theorem ctr_inj {a b : Nat} (ha : Lt a) (hb : Lt b) (e : My.ctr a = My.ctr b) : a = b := by rw [<- ctr_ctr ha, e, ctr_ctr hb]
theorem other_small : ∀ c ∈ smalls, atI caps ((smalls.idxOf c : Nat) : Int) = some (ctr c) := by decide +kernel
theorem other_cap : ∀ c ∈ caps, atI smalls ((caps.idxOf c : Nat) : Int) = some (ctr c) := by decide +kernel
noncomputable def SameB (b : Addr) (H H' : Hp) : Prop := ∀ c o, H c = some o -> c ≠ b -> H' c = some o
theorem SameB.trans {b : Addr} {H H1 H2 : Hp} (x : SameB b H H1) (y : SameB b H1 H2) : SameB b H H2 := fun c o h n => y c o (x c o h n) n
theorem SameB.of {b : Addr} {H H' : Hp} (x : Same H H') : SameB b H H' := fun c o h _ => x c o h
theorem SameB.upd (b : Addr) (H : Hp) (o : HO) : SameB b H (upd H b o) := fun c o h n => by rw [upd_ne n]; exact h
theorem Same.upd {H : Hp} {p : Addr} {o : HO} (h : H p = none) : Same H (L2.upd H p o) := fun c u e => by rw [upd_ne (ne_of_none e h)]; exact e
noncomputable def BoxAt (H : Hp) (b : Addr) : Prop := ∃ x y : Int, H b = some (.lst [.int x, .int y])
theorem BoxAt.same {H H' : Hp} {b : Addr} (h : BoxAt H b) (s : Same H H') : BoxAt H' b := let ⟨x, y, e⟩ := h; ⟨x, y, s _ _ e⟩
structure Yd (y : List Nat) : Prop where
  nd : y.Nodup
  lt : ∀ c ∈ y, Lt c
  cl : ∀ c ∈ y, ctr c ∈ y
noncomputable def sp_Lother (_ : PySem.W.Frag) : Sp := fun vs H Q _ => ∃ c, vs = [.str (S [c])] /\ Lt c /\ Q (.str (S [ctr c])) H
theorem len_Lother {K : PySem.W.Frag} {vs : List V} {H : Hp} {Q : VK} {E : XK} (h : sp_Lother K vs H Q E) : vs.length = 1 := by obtain ⟨c, rfl, _⟩ := h; rfl
noncomputable def sp_Lbox (K : PySem.W.Frag) : Sp := fun vs H Q _ => ∃ (a : Addr) (ns : List Int) (k : Nat), vs = [.ref a, .int k] /\ SqL K H a (ns.map V.int) /\ k <= 1000 /\ ∀ b H', H b = none -> BoxAt H' b -> Same H H' -> Q (.ref b) H'
theorem len_Lbox {K : PySem.W.Frag} {vs : List V} {H : Hp} {Q : VK} {E : XK} (h : sp_Lbox K vs H Q E) : vs.length = 2 := by obtain ⟨a, ns, k, rfl, _⟩ := h; rfl
noncomputable def sp_Ltake (_ : PySem.W.Frag) : Sp := fun vs H Q _ => ∃ (b : Addr) (m : Int), vs = [.ref b, .int m] /\ BoxAt H b /\ 1 <= m /\ m < 1000000 /\ ∀ (r : Nat) H', (r : Int) < m -> BoxAt H' b -> SameB b H H' -> Q (.int r) H'
theorem len_Ltake {K : PySem.W.Frag} {vs : List V} {H : Hp} {Q : VK} {E : XK} (h : sp_Ltake K vs H Q E) : vs.length = 2 := by obtain ⟨b, m, rfl, _⟩ := h; rfl
noncomputable def sp_Lyard (_ : PySem.W.Frag) : Sp := fun vs H Q _ => ∃ (b : Addr) (few top : Nat), vs = [.ref b, .int few, .int top] /\ BoxAt H b /\ 1 <= few /\ few <= top /\ top <= 8 /\ ∀ (y : List Nat) H', Yd y -> 2 * few <= y.length -> y.length <= 2 * top -> BoxAt H' b -> SameB b H H' -> Q (.str (S y)) H'
theorem len_Lyard {K : PySem.W.Frag} {vs : List V} {H : Hp} {Q : VK} {E : XK} (h : sp_Lyard K vs H Q E) : vs.length = 3 := by obtain ⟨b, m, t, rfl, _⟩ := h; rfl
noncomputable def sp_Lword (_ : PySem.W.Frag) : Sp := fun vs H Q _ => ∃ (b : Addr) (y : List Nat) (top : Nat), vs = [.ref b, .str (S y), .int top] /\ BoxAt H b /\ y ≠ [] /\ y.length <= 1000 /\ top <= 1000 /\ ∀ (l : List Nat) H', (∀ c ∈ l, c ∈ y) -> l.length <= top -> BoxAt H' b -> SameB b H H' -> Q (.str (S l)) H'
theorem len_Lword {K : PySem.W.Frag} {vs : List V} {H : Hp} {Q : VK} {E : XK} (h : sp_Lword K vs H Q E) : vs.length = 3 := by obtain ⟨b, m, t, rfl, _⟩ := h; rfl
noncomputable def sp_law (K : PySem.W.Frag) : Sp := fun vs H Q _ => ∃ (a : Addr) (ns : List Int), vs = [.ref a] /\ SqL K H a (ns.map V.int) /\ ns.length <= 63 /\ ∀ H', Q (.bl true) H'
theorem len_law {K : PySem.W.Frag} {vs : List V} {H : Hp} {Q : VK} {E : XK} (h : sp_law K vs H Q E) : vs.length = 1 := by obtain ⟨b, m, rfl, _⟩ := h; rfl
theorem flat1 : ∀ l : List Nat, (l.map fun c => [c]).flatten = l
  | [] => rfl
  | c :: l => by rw [List.map_cons, List.flatten_cons, flat1 l]; rfl
theorem sum1 : ∀ l : List Nat, ((l.map fun c => [c]).map List.length).sum = l.length
  | [] => rfl
  | c :: l => by
    rw [List.map_cons, List.map_cons, List.sum_cons, sum1 l]
    show 1 + l.length = l.length + 1
    omega
theorem sgs_lists (l : List Nat) : sgs l = (l.map fun c => [c]).map fun l => V.str (S l) := by unfold sgs; rw [List.map_map]; rfl
theorem sgs_snoc (l : List Nat) (c : Nat) : sgs l ++ [V.str (S [c])] = sgs (l ++ [c]) := by unfold sgs; rw [List.map_append]; rfl
theorem take_snoc {α : Type} {l : List α} {i : Nat} {x : α} (h : l[i]? = some x) : l.take i ++ [x] = l.take (i + 1) := by rw [List.take_add_one, h]; rfl
theorem ints_at {ns : List Int} {i : Nat} (h : i < ns.length) : ∃ z, (ns.map V.int)[i]? = some (V.int z) := ⟨ns[i], by rw [List.getElem?_map, List.getElem?_eq_getElem h]; rfl⟩
theorem yes_ite {σ : L2.St} {H : Hp} {A B : Hp -> Prop} (h : A H) : tYes σ H fun b H3 => if b = true then A H3 else B H3 := by
  show (if true = true then A H else B H)
  rw [if_pos rfl]
  exact h
theorem box_at (b : Bool) (z : Int) : ∃ y, atI [V.int 0, V.int z] (if b = true then 1 else 0) = some (V.int y) := by
  cases b
  · exact ⟨0, rfl⟩
  · exact ⟨z, rfl⟩
theorem erase_perm {α : Type} : ∀ {l : List α} {i : Nat} {x : α}, l[i]? = some x -> (x :: l.eraseIdx i).Perm l
  | [], i, x, h => by simp at h
  | a :: l, 0, x, h => by
    have : a = x := by simpa using h
    subst this
    exact List.Perm.refl _
  | a :: l, i + 1, x, h => by
    have ih := erase_perm (l := l) (i := i) (x := x) (by simpa using h)
    rw [List.eraseIdx_cons_succ]
    exact (List.Perm.swap a x _).trans (List.Perm.cons a ih)
theorem sgs_erase (l : List Nat) (i : Nat) : (sgs l).eraseIdx i = sgs (l.eraseIdx i) := by
  unfold sgs
  induction l generalizing i with
  | nil => rfl
  | cons a l ih =>
    cases i with
    | zero => rfl
    | succ i => rw [List.map_cons, List.eraseIdx_cons_succ, ih, List.eraseIdx_cons_succ, List.map_cons]
theorem sgs_at {l : List Nat} {i : Nat} (h : i < l.length) : (sgs l)[i]? = some (V.str (S [l[i]])) := by unfold sgs; rw [List.getElem?_map, List.getElem?_eq_getElem h]; rfl
theorem sgs_app (a b : List Nat) : sgs a ++ sgs b = sgs (a ++ b) := by unfold sgs; rw [List.map_append]
theorem small_ctr : ∀ c ∈ smalls, ctr c ∉ smalls := by decide +kernel
theorem smalls_nd : smalls.Nodup := by decide +kernel
theorem Yd.perm {a b : List Nat} (h : Yd a) (p : a.Perm b) : Yd b :=
  ⟨p.nodup_iff.mp h.nd, fun c hc => h.lt c (p.mem_iff.mpr hc), fun c hc => p.mem_iff.mp (h.cl c (p.mem_iff.mpr hc))⟩
structure YdW (i : Nat) (L E : List Nat) : Prop where
  yd : Yd E
  nd : L.Nodup
  sm : ∀ c ∈ L, c ∈ smalls
  ap : ∀ c ∈ L, c ∉ E
  ll : L.length = 26 - i
  el : E.length = 2 * i
theorem YdW.start : YdW 0 smalls [] := ⟨⟨List.nodup_nil, fun _ h => absurd h List.not_mem_nil, fun _ h => absurd h List.not_mem_nil⟩, smalls_nd, fun _ h => h, fun _ _ h => absurd h List.not_mem_nil, rfl, rfl⟩
theorem YdW.turn {i r : Nat} {L E : List Nat} (w : YdW i L E) (hi : i < 26) (hr : r < L.length) : YdW (i + 1) (L.eraseIdx r) (E ++ [L[r], ctr L[r]]) := by
  have hp := erase_perm (l := L) (List.getElem?_eq_getElem hr)
  have hm : L[r] ∈ L := List.getElem_mem hr
  have hs := w.sm _ hm
  have hl : Lt L[r] := .inl hs
  have nd2 := hp.nodup_iff.mpr w.nd
  have sub : ∀ c ∈ L.eraseIdx r, c ∈ L := fun c hc => hp.mem_iff.mp (List.mem_cons_of_mem _ hc)
  have ap1 := w.ap _ hm
  have ap2 : ctr L[r] ∉ E := fun z => ap1 (by have := w.yd.cl _ z; rwa [ctr_ctr hl] at this)
  refine ⟨⟨?_, fun c hc => ?_, fun c hc => ?_⟩, (List.nodup_cons.mp nd2).2, fun c hc => w.sm c (sub c hc), fun c hc hE => ?_, ?_, ?_⟩
  · rw [List.nodup_append]
    refine ⟨w.yd.nd, ?_, fun a ha b hb z => ?_⟩
    · rw [List.nodup_cons]
      refine ⟨fun z => (ctr_ne hl) (List.mem_singleton.mp z).symm, List.nodup_cons.mpr ⟨List.not_mem_nil, List.nodup_nil⟩⟩
    · subst z
      rcases List.mem_cons.mp hb with z | z
      · exact ap1 (z ▸ ha)
      · exact ap2 (List.mem_singleton.mp z ▸ ha)
  · rcases List.mem_append.mp hc with z | z
    · exact w.yd.lt c z
    · rcases List.mem_cons.mp z with z | z
      · rw [z]; exact hl
      · rw [List.mem_singleton.mp z]; exact hl.ctr
  · rcases List.mem_append.mp hc with z | z
    · exact List.mem_append_left _ (w.yd.cl c z)
    · refine List.mem_append_right _ ?_
      rcases List.mem_cons.mp z with z | z
      · rw [z]; exact List.mem_cons_of_mem _ (List.mem_singleton.mpr rfl)
      · rw [List.mem_singleton.mp z, ctr_ctr hl]; exact List.mem_cons_self
  · rcases List.mem_append.mp hE with z | z
    · exact w.ap c (sub c hc) z
    · rcases List.mem_cons.mp z with z | z
      · exact (List.nodup_cons.mp nd2).1 (z ▸ hc)
      · have e : c = ctr L[r] := List.mem_singleton.mp z
        exact small_ctr _ hs (e ▸ w.sm c (sub c hc))
  · have := hp.length_eq
    rw [List.length_cons, w.ll] at this
    omega
  · rw [List.length_append, w.el]
    show 2 * i + 2 = _
    omega
theorem SameB.updN {b p : Addr} {H H' : Hp} {o : HO} (h : SameB b H H') (n : H p = none) : SameB b H (L2.upd H' p o) := fun c u e z => by rw [upd_ne (ne_of_none e n)]; exact h c u e z
theorem BoxAt.updN {b p : Addr} {H : Hp} {o : HO} (h : BoxAt H b) (n : p ≠ b) : BoxAt (L2.upd H p o) b := let ⟨x, y, e⟩ := h; ⟨x, y, by rw [upd_ne (Ne.symm n)]; exact e⟩
theorem SameB.none {b p : Addr} {H H' : Hp} (h : SameB b H H') (n : H' p = none) (z : p ≠ b) : H p = none := by
  cases q : H p with
  | none => rfl
  | some o => rw [h p o q z] at n; cases n
theorem BoxAt.ne {b p : Addr} {H : Hp} (h : BoxAt H b) (n : H p = none) : p ≠ b := fun z => by obtain ⟨x, y, e⟩ := h; rw [<- z, n] at e; cases e
theorem iteN {c : Bool} {A B : Prop} (h : c = false) (hB : B) : if c = true then A else B := by rw [h]; exact iteF hB
theorem iteY {c : Bool} {A B : Prop} (h : c = true) (hA : A) : if c = true then A else B := by rw [h]; exact iteT hA
theorem sgs_take (a : List Nat) : a.take (sgs a).length = a := by rw [sgs_len]; exact List.take_of_length_le (Nat.le_refl _)
theorem SameB.same {b : Addr} {H H2 H3 : Hp} (n : H b = Option.none) (s : Same H H2) (t : SameB b H2 H3) : Same H H3 := fun c o e => t c o (s c o e) (ne_of_none e n)
theorem SameB.after {p : Addr} {H H1 H2 : Hp} (s : SameB p H H1) (t : Same H1 H2) : SameB p H H2 := fun c o e z => t c o (s c o e z)
noncomputable def txs (ws : List (List Nat)) : List V := ws.map fun l => V.str (S l)
theorem txs_len (ws : List (List Nat)) : (txs ws).length = ws.length := by unfold txs; rw [List.length_map]
theorem txs_snoc (ws : List (List Nat)) (l : List Nat) : txs ws ++ [V.str (S l)] = txs (ws ++ [l]) := by unfold txs; rw [List.map_append]; rfl
theorem txs_at {ws : List (List Nat)} {i : Nat} (h : i < ws.length) : (txs ws)[i]? = some (V.str (S ws[i])) := by unfold txs; rw [List.getElem?_map, List.getElem?_eq_getElem h]; rfl
noncomputable def rstep (st : List Nat) (c : Nat) : List Nat := if st.getLast? = some (ctr c) then st.dropLast else st ++ [c]
noncomputable def red (l : List Nat) : List Nat := l.foldl rstep []
noncomputable def Rdd : List Nat -> Prop
  | [] => True
  | [_] => True
  | a :: b :: r => a ≠ ctr b /\ Rdd (b :: r)
noncomputable def strip : Nat -> List Nat -> List Nat
  | 0, l => l
  | n + 1, l => match l with
    | [] => []
    | [a] => [a]
    | a :: b :: r => if a = ctr ((b :: r).getLast (by simp)) then strip n (b :: r).dropLast else a :: b :: r
noncomputable def core (l : List Nat) : List Nat := strip l.length l
theorem cut_to {α : Type} (l : List α) (k : Nat) : cut l none (some (k : Int)) = l.take k := by
  unfold cut
  rw [HT.sIx_none, HT.sIx_nat, List.drop_zero, Nat.sub_zero]
  by_cases h : k <= l.length
  · rw [Nat.min_eq_left h]
  · rw [Nat.min_eq_right (by omega), List.take_of_length_le (Nat.le_refl _), List.take_of_length_le (by omega)]
theorem cut_from {α : Type} (l : List α) (k : Nat) : cut l (some (k : Int)) none = l.drop k := by
  unfold cut
  rw [HT.sIx_none, HT.sIx_nat]
  by_cases h : k <= l.length
  · rw [Nat.min_eq_left h, List.take_of_length_le (by rw [List.length_drop]; exact Nat.le_refl _)]
  · rw [Nat.min_eq_right (by omega), List.drop_of_length_le (Nat.le_refl _), List.drop_of_length_le (by omega)]
    simp
mutual
theorem eqv_refl : ∀ d : PyData, d.hasDict = false -> PyData.eqv d d = true
  | .none, _ => rfl
  | .bool b, _ => by simp [PyData.eqv]
  | .int i, _ => by simp [PyData.eqv]
  | .str x, _ => by simp [PyData.eqv]
  | .list xs, h => by show PyData.eqvAll xs xs = true; exact eqvAll_refl xs (by simpa [PyData.hasDict] using h)
  | .tuple xs, h => by show PyData.eqvAll xs xs = true; exact eqvAll_refl xs (by simpa [PyData.hasDict] using h)
  | .dict kvs, h => by simp [PyData.hasDict] at h
theorem eqvAll_refl : ∀ ds : List PyData, PyData.hasDictAll ds = false -> PyData.eqvAll ds ds = true
  | [], _ => rfl
  | d :: ds, h => by
    simp [PyData.hasDictAll] at h
    show (PyData.eqv d d && PyData.eqvAll ds ds) = true
    rw [eqv_refl d h.1, eqvAll_refl ds h.2]
    rfl
end
noncomputable def rot (c : List Nat) (k : Nat) : List Nat := c.drop k ++ c.take k
noncomputable def rots (c : List Nat) (n : Nat) : List (List Nat) := (List.range n).map fun k => rot c (k + 1)
noncomputable def ringC (c : List Nat) : List Nat := leastOf c (rots c (c.length - 1))
@[irreducible] noncomputable def ringM (w : List Nat) : List Nat := ringC (core (red w))
noncomputable def letters : List Nat := [97, 98, 99, 100, 101, 102, 103, 104, 105, 106, 107, 108, 109, 110, 111, 112, 113, 114, 115, 116, 117, 118, 119, 120, 121, 122, 65, 66, 67, 68, 69, 70, 71, 72, 73, 74, 75, 76, 77, 78, 79, 80, 81, 82, 83, 84, 85, 86, 87, 88, 89, 90]
theorem low_of_small : ∀ c ∈ smalls, isLow c = true /\ PyProof.Rows.lo1 c = c /\ ctr c ∈ caps := by decide +kernel
theorem low_of_cap : ∀ c ∈ caps, isLow c = false /\ PyProof.Rows.lo1 c = ctr c /\ c ∉ smalls /\ ctr c ∈ smalls := by decide +kernel
theorem cap_small : ∀ c ∈ caps, c ∉ smalls := by decide +kernel
theorem isLow_iff {c : Nat} (h : Lt c) : isLow c = decide (c ∈ smalls) := by
  rcases h with h | h
  · rw [(low_of_small c h).1, decide_eq_true h]
  · rw [(low_of_cap c h).1, decide_eq_false (low_of_cap c h).2.2.1]
noncomputable def kept (sm : List Nat) (c : Nat) : Bool := decide (PyProof.Rows.lo1 c ∈ sm)
noncomputable def cyc (i j k : Nat) : Prop := (i < j /\ j < k) \/ (j < k /\ k < i) \/ (k < i /\ i < j)
noncomputable instance (i j k : Nat) : Decidable (cyc i j k) := by unfold cyc; infer_instance
theorem sorted_eq {a b : List Nat} (h : a.Perm b) (ha : a.Pairwise (· <= ·)) (hb : b.Pairwise (· <= ·)) : a = b :=
  List.Perm.eq_of_pairwise (le := fun x y => x <= y) (fun _ _ _ _ h1 h2 => Nat.le_antisymm h1 h2) ha hb h
noncomputable def sp_bands (_ : PySem.W.Frag) : Sp := fun vs H Q _ => ∃ l : List Nat, vs = [.str (S l)] /\ (∀ c ∈ l, c < 128) /\ l.length < 64 /\ ∀ l' H', l'.Perm (l.filter isLow) -> l'.Pairwise (· <= ·) -> Same H H' -> Q (.str (S l')) H'
theorem len_bands {K : PySem.W.Frag} {vs : List V} {H : Hp} {Q : VK} {E : XK} (h : sp_bands K vs H Q E) : vs.length = 1 := by obtain ⟨c, rfl, _⟩ := h; rfl
noncomputable def sp_Lbands (_ : PySem.W.Frag) : Sp := fun vs H Q _ => ∃ y : List Nat, vs = [.str (S y)] /\ y.length < 64 /\ ∀ q l' H', H q = none -> H' q = some (.lst (sgs l')) -> l'.Perm (y.filter fun c => decide (c ∈ smalls)) -> l'.Pairwise (· <= ·) -> Same H H' -> Q (.ref q) H'
theorem len_Lbands {K : PySem.W.Frag} {vs : List V} {H : Hp} {Q : VK} {E : XK} (h : sp_Lbands K vs H Q E) : vs.length = 1 := by obtain ⟨c, rfl, _⟩ := h; rfl
theorem filter_take {p : Nat -> Bool} {l : List Nat} {i c : Nat} (h : l[i]? = some c) : (l.take (i + 1)).filter p = (l.take i).filter p ++ if p c = true then [c] else [] := by
  rw [<- take_snoc h, List.filter_append]
  congr 1
  by_cases z : p c = true
  · rw [if_pos z, List.filter_cons_of_pos z]; rfl
  · rw [if_neg z, List.filter_cons_of_neg z]; rfl
theorem half_low {y : List Nat} (h : Yd y) : 2 * (y.filter isLow).length = y.length := by
  have key : ∀ p q : Nat -> Bool, (∀ c ∈ y, p c = true -> q (ctr c) = true) -> (y.filter p).length <= (y.filter q).length := fun p q hpq => by
    have hn : ((y.filter p).map ctr).Nodup := by
      show ((y.filter p).map ctr).Pairwise (· ≠ ·)
      rw [List.pairwise_map]
      refine (h.nd.filter p).imp_of_mem fun {a b} ha hb z e => z ?_
      exact ctr_inj (h.lt a (List.mem_filter.mp ha).1) (h.lt b (List.mem_filter.mp hb).1) e
    have := hn.length_le_of_subset (l₂ := y.filter q) fun c hc => by
      obtain ⟨d, hd, rfl⟩ := List.mem_map.mp hc
      obtain ⟨d1, d2⟩ := List.mem_filter.mp hd
      exact List.mem_filter.mpr ⟨h.cl d d1, hpq d d1 d2⟩
    rwa [List.length_map] at this
  have k1 := key isLow (fun c => !isLow c) fun c hc z => by
    rw [isLow_iff (h.lt c hc)] at z
    have hs := of_decide_eq_true z
    rw [(low_of_cap _ (low_of_small c hs).2.2).1]; rfl
  have k2 := key (fun c => !isLow c) isLow fun c hc z => by
    rcases h.lt c hc with q | q
    · rw [(low_of_small c q).1] at z; cases z
    · exact (low_of_small _ (low_of_cap c q).2.2.2).1
  have k3 : (y.filter isLow).length + (y.filter fun c => !isLow c).length = y.length := by
    clear k1 k2 key h
    induction y with
    | nil => rfl
    | cons a r ih =>
      cases hq : isLow a
      · rw [List.filter_cons_of_neg (by simp [hq]), List.filter_cons_of_pos (by simp [hq]), List.length_cons, List.length_cons]; omega
      · rw [List.filter_cons_of_pos hq, List.filter_cons_of_neg (by simp [hq]), List.length_cons, List.length_cons]; omega
  omega
noncomputable def bsOf (y : List Nat) : List Nat := (y.filter isLow).mergeSort fun a b => decide (a <= b)
theorem bsOf_perm (y : List Nat) : (bsOf y).Perm (y.filter isLow) := List.mergeSort_perm _ _
theorem bsOf_sorted (y : List Nat) : (bsOf y).Pairwise (· <= ·) :=
  (List.pairwise_mergeSort (le := fun a b => decide (a <= b)) (fun a b c h1 h2 => decide_eq_true (Nat.le_trans (of_decide_eq_true h1) (of_decide_eq_true h2))) (fun a b => by
    rcases Nat.le_total a b with z | z
    · rw [decide_eq_true z]; rfl
    · rw [decide_eq_true z, Bool.or_true]) (y.filter isLow)).imp fun z => of_decide_eq_true z
theorem bsOf_eq {y l : List Nat} (h : l.Perm (y.filter isLow)) (p : l.Pairwise (· <= ·)) : l = bsOf y := sorted_eq (h.trans (bsOf_perm y).symm) p (bsOf_sorted y)
theorem smalls_low {y : List Nat} (h : ∀ c ∈ y, Lt c) : (y.filter fun c => decide (c ∈ smalls)) = y.filter isLow := List.filter_congr fun c hc => (isLow_iff (h c hc)).symm
theorem bsOf_len {y : List Nat} (h : Yd y) : 2 * (bsOf y).length = y.length := by rw [(bsOf_perm y).length_eq]; exact half_low h
structure Pr where
  t : Addr
  c : Nat
  i : Nat
noncomputable def prv (ps : List Pr) : List V := ps.map fun p => V.ref p.t
theorem prv_len (ps : List Pr) : (prv ps).length = ps.length := by unfold prv; rw [List.length_map]
theorem prv_app (a b : List Pr) : prv a ++ prv b = prv (a ++ b) := by unfold prv; rw [List.map_append]
theorem prv_snoc (a : List Pr) (p : Pr) : prv a ++ [V.ref p.t] = prv (a ++ [p]) := by unfold prv; rw [List.map_append]; rfl
structure PrOk (H : Hp) (p : Pr) : Prop where
  tp : H p.t = some (.tup [.int p.c, .int p.i])
  cz : p.c < 1000
  iz : p.i < 1000
theorem PrOk.same {H H' : Hp} {p : Pr} (h : PrOk H p) (s : Same H H') : PrOk H' p := ⟨s _ _ h.tp, h.cz, h.iz⟩
structure Od where
  o : Addr
  ps : List Pr
structure OdOk (H : Hp) (o : Od) : Prop where
  tp : H o.o = some (.tup (prv o.ps))
  pr : ∀ p ∈ o.ps, PrOk H p
  fw : o.ps.length <= 100
theorem OdOk.same {H H' : Hp} {o : Od} (h : OdOk H o) (s : Same H H') : OdOk H' o := ⟨s _ _ h.tp, fun p hp => (h.pr p hp).same s, h.fw⟩
noncomputable def odv (os : List Od) : List V := os.map fun o => V.ref o.o
theorem odv_len (os : List Od) : (odv os).length = os.length := by unfold odv; rw [List.length_map]
theorem odv_snoc (a : List Od) (p : Od) : odv a ++ [V.ref p.o] = odv (a ++ [p]) := by unfold odv; rw [List.map_append]; rfl
structure DrAt (H : Hp) (dr : Addr) (ws : List (List Nat)) (os : List Od) : Prop where
  ex : ∃ wt ot, H dr = some (.tup [.ref wt, .ref ot]) /\ H wt = some (.tup (txs ws)) /\ H ot = some (.tup (odv os))
  od : ∀ o ∈ os, OdOk H o
structure Pt where
  t : Addr
  c : Nat
  i : Nat
  e : Nat
noncomputable def Pt.is (p : Pt) : Nat × Nat × Nat := (p.c, p.i, p.e)
structure PtOk (H : Hp) (p : Pt) : Prop where
  tp : H p.t = some (.tup [.int p.c, .int p.i, .str (S [p.e])])
  cz : p.c < 1000
  iz : p.i < 1000
  ez : p.e < 128
noncomputable def ThingsAt (K : PySem.W.Frag) (H : Hp) (x : V) (ys : List V) : Prop := (∃ p, x = .ref p /\ (SqL K H p ys \/ SqT K H p ys)) \/ ∃ l : List Nat, x = .str (S l) /\ ys = sgs l
noncomputable def sp_Lorder (K : PySem.W.Frag) : Sp := fun vs H Q _ => ∃ (b : Addr) (x : V) (ys : List V), vs = [.ref b, x] /\ BoxAt H b /\ ThingsAt K H x ys /\ ys.length <= 1000 /\ ∀ q ys' H', H q = none -> q ≠ b -> H' q = some (.lst ys') -> ys'.Perm ys -> BoxAt H' b -> SameB b H H' -> Q (.ref q) H'
theorem len_Lorder {K : PySem.W.Frag} {vs : List V} {H : Hp} {Q : VK} {E : XK} (h : sp_Lorder K vs H Q E) : vs.length = 2 := by obtain ⟨c, _, _, rfl, _⟩ := h; rfl
theorem perm_unmap {α β : Type} {f : α -> β} {ys zs : List β} (h : ys.Perm zs) : ∀ l : List α, zs = l.map f -> ∃ l' : List α, ys = l'.map f /\ l'.Perm l := by
  induction h with
  | nil => intro l e; cases l with
    | nil => exact ⟨[], rfl, List.Perm.refl _⟩
    | cons a l => cases e
  | cons x h ih =>
    intro l e
    cases l with
    | nil => cases e
    | cons a l =>
      injection e with e1 e2
      obtain ⟨l', g1, g2⟩ := ih l e2
      exact ⟨a :: l', by rw [g1, e1]; rfl, g2.cons a⟩
  | swap x y t =>
    intro l e
    cases l with
    | nil => cases e
    | cons a l =>
      cases l with
      | nil => cases e
      | cons b l =>
        injection e with e1 e2
        injection e2 with e2 e3
        exact ⟨b :: a :: l, by rw [e1, e2, e3]; rfl, List.Perm.swap a b l⟩
  | trans h1 h2 i1 i2 =>
    intro l e
    obtain ⟨l1, g1, g2⟩ := i2 l e
    obtain ⟨l2, g3, g4⟩ := i1 l1 g1
    exact ⟨l2, g3, g4.trans g2⟩
noncomputable def Pr.pair (p : Pr) : Nat × Nat := (p.c, p.i)
noncomputable def onB (band l : Nat) : Bool := decide (l = band) || decide (l = ctr band)
noncomputable def strUp (band c : Nat) (w : List Nat) (n : Nat) : List (Nat × Nat) := ((List.range n).filter fun i => onB band (w.getD i 0)).map fun i => (c, i)
noncomputable def strAll (band : Nat) (ws : List (List Nat)) (n : Nat) : List (Nat × Nat) := (List.range n).flatMap fun c => strUp band c (ws.getD c []) (ws.getD c []).length
theorem strUp_succ {band c i l : Nat} {w : List Nat} (h : w[i]? = some l) : strUp band c w (i + 1) = strUp band c w i ++ if onB band l = true then [(c, i)] else [] := by
  have e : w.getD i 0 = l := by rw [List.getD_eq_getElem?_getD, h]; rfl
  unfold strUp
  rw [List.range_succ, List.filter_append, List.map_append]
  congr 1
  by_cases z : onB band l = true
  · rw [if_pos z, List.filter_cons_of_pos (by rw [e]; exact z)]; rfl
  · rw [if_neg z, List.filter_cons_of_neg (by rw [e]; exact z)]; rfl
theorem strAll_succ {band i : Nat} {ws : List (List Nat)} {w : List Nat} (h : ws[i]? = some w) : strAll band ws (i + 1) = strAll band ws i ++ strUp band i w w.length := by
  have e : ws.getD i [] = w := by rw [List.getD_eq_getElem?_getD, h]; rfl
  unfold strAll
  rw [List.range_succ, List.flatMap_append]
  congr 1
  rw [List.flatMap_cons, List.flatMap_nil, List.append_nil, e]
theorem strUp_len (band c : Nat) (w : List Nat) (n : Nat) : (strUp band c w n).length <= n := by
  unfold strUp
  rw [List.length_map]
  exact Nat.le_trans (List.length_filter_le _ _) (by rw [List.length_range]; exact Nat.le_refl _)
structure WsOk (y : List Nat) (ws : List (List Nat)) : Prop where
  few : ws.length <= 4
  all : ∀ w ∈ ws, (∀ c ∈ w, c ∈ y) /\ w.length <= 12
noncomputable def OsOk (y : List Nat) (ws : List (List Nat)) (os : List Od) : Prop := os.length = (bsOf y).length /\ ∀ (j : Nat) (o : Od) (b : Nat), os[j]? = some o -> (bsOf y)[j]? = some b -> (o.ps.map Pr.pair).Perm (strAll b ws ws.length)
noncomputable def sp_Lwords (_ : PySem.W.Frag) : Sp := fun vs H Q _ => ∃ (b : Addr) (y : List Nat), vs = [.ref b, .str (S y)] /\ BoxAt H b /\ y ≠ [] /\ y.length <= 8 /\ ∀ (t : Addr) (ws : List (List Nat)) (H' : Hp), H t = none -> t ≠ b -> H' t = some (.tup (txs ws)) -> WsOk y ws -> BoxAt H' b -> SameB b H H' -> Q (.ref t) H'
theorem len_Lwords {K : PySem.W.Frag} {vs : List V} {H : Hp} {Q : VK} {E : XK} (h : sp_Lwords K vs H Q E) : vs.length = 2 := by obtain ⟨c, _, rfl, _⟩ := h; rfl
noncomputable def sp_Ldrawing (_ : PySem.W.Frag) : Sp := fun vs H Q _ => ∃ (b : Addr) (y : List Nat) (wt : Addr) (ws : List (List Nat)), vs = [.ref b, .str (S y), .ref wt] /\ BoxAt H b /\ Yd y /\ y.length <= 8 /\ wt ≠ b /\ H wt = some (.tup (txs ws)) /\ WsOk y ws /\ ∀ (dr : Addr) (os : List Od) (H' : Hp), DrAt H' dr ws os -> OsOk y ws os -> BoxAt H' b -> SameB b H H' -> Q (.ref dr) H'
theorem len_Ldrawing {K : PySem.W.Frag} {vs : List V} {H : Hp} {Q : VK} {E : XK} (h : sp_Ldrawing K vs H Q E) : vs.length = 3 := by obtain ⟨c, _, _, _, rfl, _⟩ := h; rfl
theorem TSame.box {H H' : Hp} {b : Addr} (h : BoxAt H b) (s : SameB b H H') : TSame H H' := fun c xs e => s c _ e fun z => by
  obtain ⟨x, y, g⟩ := h
  rw [z, g] at e; cases e
theorem PrOk.ts {H H' : Hp} {p : Pr} (h : PrOk H p) (s : TSame H H') : PrOk H' p := ⟨s _ _ h.tp, h.cz, h.iz⟩
theorem OdOk.ts {H H' : Hp} {o : Od} (h : OdOk H o) (s : TSame H H') : OdOk H' o := ⟨s _ _ h.tp, fun p hp => (h.pr p hp).ts s, h.fw⟩
theorem low_on {band l : Nat} (hb : band ∈ smalls) (hl : Lt l) : decide (PyProof.Rows.lo1 l = band) = onB band l := by
  unfold onB
  rcases hl with h | h
  · have e := (low_of_small l h).2.1
    have n : l ≠ ctr band := fun z => cap_small _ (low_of_small band hb).2.2 (z ▸ h)
    rw [e, decide_eq_false n, Bool.or_false]
  · have e := (low_of_cap l h).2.1
    have n : l ≠ band := fun z => cap_small l h (z ▸ hb)
    rw [e, decide_eq_false n, Bool.false_or]
    refine decide_eq_decide.mpr ⟨fun z => by rw [<- z, ctr_ctr (.inr h)], fun z => by rw [z, ctr_ctr (.inl hb)]⟩
theorem strAll_low {band : Nat} {ws : List (List Nat)} : ∀ {n : Nat}, ∀ p ∈ strAll band ws n, p.1 < n := fun {n} p hp => by
  unfold strAll at hp
  obtain ⟨c, hc, h⟩ := List.mem_flatMap.mp hp
  unfold strUp at h
  obtain ⟨i, _, rfl⟩ := List.mem_map.mp h
  exact List.mem_range.mp hc
noncomputable def pz (p : Nat × Nat) : Int × Int := (p.1, p.2)
theorem strUp_rise (band c : Nat) (w : List Nat) : ∀ n, (strUp band c w n).Pairwise fun x y => pairLt (pz y) (pz x) = false := fun n => by
  unfold strUp
  rw [List.pairwise_map]
  refine (List.Pairwise.filter _ List.pairwise_lt_range).imp fun {i j} h => ?_
  unfold pairLt pz
  simp
  omega
theorem strAll_rise (band : Nat) (ws : List (List Nat)) : ∀ n, n <= ws.length -> (strAll band ws n).Pairwise fun x y => pairLt (pz y) (pz x) = false
  | 0, _ => List.Pairwise.nil
  | n + 1, h => by
    rw [strAll_succ (List.getElem?_eq_getElem (by omega : n < ws.length)), List.pairwise_append]
    refine ⟨strAll_rise band ws n (by omega), strUp_rise _ _ _ _, fun x hx y hy => ?_⟩
    have h1 := strAll_low x hx
    unfold strUp at hy
    obtain ⟨i, _, rfl⟩ := List.mem_map.mp hy
    unfold pairLt pz
    simp
    omega
theorem strAll_len (band : Nat) {ws : List (List Nat)} (hw : ∀ w ∈ ws, w.length <= 12) : ∀ n, n <= ws.length -> (strAll band ws n).length <= 12 * n
  | 0, _ => Nat.le_refl _
  | n + 1, h => by
    have hn : n < ws.length := by omega
    rw [strAll_succ (List.getElem?_eq_getElem hn), List.length_append]
    have h1 := strAll_len band hw n (by omega)
    have h2 := strUp_len band n ws[n] ws[n].length
    have h3 := hw _ (List.getElem_mem hn)
    omega
noncomputable def prD (p : Nat × Nat) : PyData := .tuple [.int p.1, .int p.2]
theorem rdds_prs {K : PySem.W.Frag} {H : Hp} : ∀ {ps : List Pr}, (∀ p ∈ ps, PrOk H p) -> RdDs K H (prv ps) ((ps.map Pr.pair).map prD)
  | [], _ => .nil
  | p :: ps, h => .cons (.tup (SqT.of (h p List.mem_cons_self).tp) (.cons (.int _) (.cons (.int _) .nil))) (rdds_prs fun q hq => h q (List.mem_cons_of_mem _ hq))
noncomputable def odD (o : Od) : PyData := .tuple ((o.ps.map Pr.pair).map prD)
noncomputable def OsEx (y : List Nat) (ws : List (List Nat)) (os : List Od) : Prop := os.map (fun o => o.ps.map Pr.pair) = (bsOf y).map fun b => strAll b ws ws.length
noncomputable def sp_strands_in (_ : PySem.W.Frag) : Sp := fun vs H Q _ => ∃ (wt : Addr) (ws : List (List Nat)) (band : Nat), vs = [.ref wt, .str (S [band])] /\ H wt = some (.tup (txs ws)) /\ ws.length <= 4 /\ (∀ w ∈ ws, (∀ c ∈ w, Lt c) /\ w.length <= 12) /\ band ∈ smalls /\ ∀ (q : Addr) (ps : List Pr) (H' : Hp), H q = none -> H' q = some (.lst (prv ps)) -> (∀ p ∈ ps, PrOk H' p) -> ps.map Pr.pair = strAll band ws ws.length -> Same H H' -> Q (.ref q) H'
theorem len_strands_in {K : PySem.W.Frag} {vs : List V} {H : Hp} {Q : VK} {E : XK} (h : sp_strands_in K vs H Q E) : vs.length = 2 := by obtain ⟨c, _, _, rfl, _⟩ := h; rfl
noncomputable def sp_Lstrands (_ : PySem.W.Frag) : Sp := fun vs H Q _ => ∃ (wt : Addr) (ws : List (List Nat)) (band : Nat), vs = [.ref wt, .str (S [band])] /\ H wt = some (.tup (txs ws)) /\ ws.length <= 4 /\ (∀ w ∈ ws, (∀ c ∈ w, Lt c) /\ w.length <= 12) /\ band ∈ smalls /\ ∀ (q : Addr) (ps : List Pr) (H' : Hp), H q = none -> H' q = some (.lst (prv ps)) -> (∀ p ∈ ps, PrOk H' p) -> ps.map Pr.pair = strAll band ws ws.length -> Same H H' -> Q (.ref q) H'
theorem len_Lstrands {K : PySem.W.Frag} {vs : List V} {H : Hp} {Q : VK} {E : XK} (h : sp_Lstrands K vs H Q E) : vs.length = 2 := by obtain ⟨c, _, _, rfl, _⟩ := h; rfl
theorem bs_small {y : List Nat} (h : Yd y) {b : Nat} (hb : b ∈ bsOf y) : b ∈ smalls := by
  obtain ⟨h1, h2⟩ := List.mem_filter.mp ((bsOf_perm y).mem_iff.mp hb)
  rw [isLow_iff (h.lt b h1)] at h2
  exact of_decide_eq_true h2
structure Ask where
  t : Addr
  u : List Nat
  wt : Addr
  ws : List (List Nat)
  ot : Addr
  os : List Od
structure AskOk (H : Hp) (k : Ask) : Prop where
  tp : H k.t = some (.tup [.str (S k.u), .ref k.wt, .ref k.ot])
  yd : Yd k.u
  yz : k.u.length <= 8
  wo : WsOk k.u k.ws
  hw : H k.wt = some (.tup (txs k.ws))
  ho : H k.ot = some (.tup (odv k.os))
  od : ∀ o ∈ k.os, OdOk H o
  ex : OsEx k.u k.ws k.os
noncomputable def frn (y l : List Nat) : Option Nat := l.findIdx? fun c => !decide (c ∈ y)
theorem frn_no {y : List Nat} : ∀ {l : List Nat}, (∀ d ∈ l, d ∈ y) -> frn y l = none
  | [], _ => rfl
  | a :: l, h => by
    unfold frn
    rw [List.findIdx?_cons, show (!decide (a ∈ y)) = false from by simp [h a List.mem_cons_self]]
    have e := frn_no (l := l) fun d hd => h d (List.mem_cons_of_mem _ hd)
    unfold frn at e
    rw [e]; rfl
theorem frn_at {y : List Nat} {c : Nat} : ∀ {l : List Nat} {i : Nat}, l[i]? = some c -> c ∉ y -> (∀ d ∈ l.take i, d ∈ y) -> frn y l = some i
  | [], i, h, _, _ => by simp at h
  | a :: l, 0, h, n, _ => by
    obtain rfl : a = c := by simpa using h
    unfold frn
    rw [List.findIdx?_cons, show (!decide (a ∈ y)) = true from by simp [n]]; rfl
  | a :: l, i + 1, h, n, b => by
    unfold frn
    rw [List.findIdx?_cons, show (!decide (a ∈ y)) = false from by simp [b a (by simp)]]
    have e := frn_at (l := l) (i := i) (by simpa using h) n fun d hd => b d (by simp [hd])
    unfold frn at e
    rw [e]; rfl
noncomputable def frV : Option Nat -> V
  | none => .non
  | some i => .int i
noncomputable def sp_foreign_sign (_ : PySem.W.Frag) : Sp := fun vs H Q _ => ∃ (y w : List Nat), vs = [.str (S y), .str (S w)] /\ ∀ H', Same H H' -> Q (frV (frn y w)) H'
theorem len_foreign_sign {K : PySem.W.Frag} {vs : List V} {H : Hp} {Q : VK} {E : XK} (h : sp_foreign_sign K vs H Q E) : vs.length = 2 := by obtain ⟨c, _, rfl, _⟩ := h; rfl
structure PrI where
  t : Addr
  c : Int
  i : Int
noncomputable def PrI.pair (p : PrI) : Int × Int := (p.c, p.i)
structure OI where
  o : Addr
  ps : List PrI
noncomputable def piv (ps : List PrI) : List V := ps.map fun p => V.ref p.t
noncomputable def oiv (os : List OI) : List V := os.map fun o => V.ref o.o
noncomputable def ois (o : OI) : List (Int × Int) := o.ps.map PrI.pair
theorem piv_len (ps : List PrI) : (piv ps).length = ps.length := by unfold piv; rw [List.length_map]
theorem oiv_len (os : List OI) : (oiv os).length = os.length := by unfold oiv; rw [List.length_map]
theorem piv_at {ps : List PrI} {i : Nat} {p : PrI} (h : ps[i]? = some p) : (piv ps)[i]? = some (V.ref p.t) := by unfold piv; rw [List.getElem?_map, h]; rfl
theorem oiv_at {os : List OI} {i : Nat} {o : OI} (h : os[i]? = some o) : (oiv os)[i]? = some (V.ref o.o) := by unfold oiv; rw [List.getElem?_map, h]; rfl
noncomputable def PiOk (H : Hp) (p : PrI) : Prop := H p.t = some (.tup [.int p.c, .int p.i])
structure OiOk (H : Hp) (o : OI) : Prop where
  tp : H o.o = some (.tup (piv o.ps))
  pr : ∀ p ∈ o.ps, PiOk H p
theorem OiOk.ts {H H' : Hp} {o : OI} (h : OiOk H o) (s : TSame H H') : OiOk H' o := ⟨s _ _ h.tp, fun p hp => s _ _ (h.pr p hp)⟩
structure DiAt (H : Hp) (dr : Addr) (ws : List (List Nat)) (os : List OI) : Prop where
  tp : ∃ wt ot, H dr = some (.tup [.ref wt, .ref ot]) /\ H wt = some (.tup (txs ws)) /\ H ot = some (.tup (oiv os))
  od : ∀ o ∈ os, OiOk H o
theorem DiAt.ts {H H' : Hp} {dr : Addr} {ws : List (List Nat)} {os : List OI} (h : DiAt H dr ws os) (s : TSame H H') : DiAt H' dr ws os := by
  obtain ⟨⟨wt, ot, h1, h2, h3⟩, g⟩ := h
  exact ⟨⟨wt, ot, s _ _ h1, s _ _ h2, s _ _ h3⟩, fun o ho => (g o ho).ts s⟩
theorem DiAt.same {H H' : Hp} {dr : Addr} {ws : List (List Nat)} {os : List OI} (h : DiAt H dr ws os) (s : Same H H') : DiAt H' dr ws os := h.ts (TSame.of s)
structure Bd (j : Nat) (ws : List (List Nat)) (os : List OI) : Prop where
  few : ws.length <= 4
  wd : ∀ w ∈ ws, (∀ c ∈ w, c < 128) /\ w.length <= 12
  om : os.length <= 4 + j
  op : ∀ o ∈ os, o.ps.length <= 48 + j
noncomputable def piOf (p : Pr) : PrI := ⟨p.t, p.c, p.i⟩
noncomputable def oiOf (o : Od) : OI := ⟨o.o, o.ps.map piOf⟩
theorem oiOf_v (os : List Od) : oiv (os.map oiOf) = odv os := by unfold oiv odv; rw [List.map_map]; rfl
theorem piOf_v (ps : List Pr) : piv (ps.map piOf) = prv ps := by unfold piv prv; rw [List.map_map]; rfl
theorem di_of {H : Hp} {dr : Addr} {ws : List (List Nat)} {os : List Od} (h : DrAt H dr ws os) : DiAt H dr ws (os.map oiOf) := by
  obtain ⟨⟨wt, ot, h1, h2, h3⟩, hO⟩ := h
  refine ⟨⟨wt, ot, h1, h2, by rw [oiOf_v]; exact h3⟩, fun o ho => ?_⟩
  obtain ⟨u, hu, rfl⟩ := List.mem_map.mp ho
  refine ⟨by show H u.o = some (.tup (piv (u.ps.map piOf))); rw [piOf_v]; exact (hO u hu).tp, fun p hp => ?_⟩
  obtain ⟨z, hz, rfl⟩ := List.mem_map.mp hp
  exact ((hO u hu).pr z hz).tp
noncomputable def wOut (y : List Nat) : Nat -> List (List Nat) -> Option Nat
  | _, [] => none
  | k, w :: ws => if frn y w = none then wOut y (k + 1) ws else some k
theorem wOut_none {y : List Nat} : ∀ {ws : List (List Nat)} {k : Nat}, wOut y k ws = none -> ∀ w ∈ ws, frn y w = none
  | [], _, _ => fun _ h => absurd h List.not_mem_nil
  | w :: ws, k, h => fun v hv => by
    unfold wOut at h
    by_cases e : frn y w = none
    · rw [if_pos e] at h
      rcases List.mem_cons.mp hv with z | z
      · rw [z]; exact e
      · exact wOut_none h v z
    · rw [if_neg e] at h; cases h
theorem wOut_all {y : List Nat} : ∀ {ws : List (List Nat)} {k : Nat}, (∀ w ∈ ws, ∀ c ∈ w, c ∈ y) -> wOut y k ws = none
  | [], _, _ => rfl
  | w :: ws, k, h => by
    unfold wOut
    rw [if_pos (frn_no (h w List.mem_cons_self))]
    exact wOut_all fun v hv => h v (List.mem_cons_of_mem _ hv)
theorem frn_all {y w : List Nat} (h : frn y w = none) : ∀ c ∈ w, c ∈ y := fun c hc => by
  unfold frn at h
  have := List.findIdx?_eq_none_iff.mp h c hc
  simpa using this
noncomputable def sts (b : Nat) (ws : List (List Nat)) : List (Int × Int) := (strAll b ws ws.length).map pz
noncomputable def sOut (ws : List (List Nat)) : Nat -> List Nat -> List (List (Int × Int)) -> Option Nat
  | k, b :: bs, ns :: L => if ns.Perm (sts b ws) then sOut ws (k + 1) bs L else some k
  | _, _, _ => none
noncomputable def wWords3 : List Nat := [119, 111, 114, 100, 115]
noncomputable def wBands3 : List Nat := [98, 97, 110, 100, 115]
noncomputable def wStrands3 : List Nat := [115, 116, 114, 97, 110, 100, 115]
noncomputable def oOut (y : List Nat) (ws : List (List Nat)) (L : List (List (Int × Int))) : Option (List Nat × Nat) :=
  if L.length = (bsOf y).length then (sOut ws 0 (bsOf y) L).map fun k => (wStrands3, k) else some (wBands3, L.length)
noncomputable def dueO (y : List Nat) (ws : List (List Nat)) (L : List (List (Int × Int))) : Option (List Nat × Nat) := match wOut y 0 ws with
  | some k => some (wWords3, k)
  | none => oOut y ws L
theorem dueO_w {y : List Nat} {ws : List (List Nat)} {L : List (List (Int × Int))} {k : Nat} (h : wOut y 0 ws = some k) : dueO y ws L = some (wWords3, k) := by unfold dueO; rw [h]
theorem dueO_o {y : List Nat} {ws : List (List Nat)} {L : List (List (Int × Int))} (h : wOut y 0 ws = none) : dueO y ws L = oOut y ws L := by unfold dueO; rw [h]
noncomputable def ipD (p : Int × Int) : PyData := .tuple [.int p.1, .int p.2]
theorem eqv_ip (p q : Int × Int) : PyData.eqv (ipD p) (ipD q) = decide (p = q) := by
  obtain ⟨a, b⟩ := p
  obtain ⟨c, d⟩ := q
  show (decide (a = c) && (decide (b = d) && true)) = _
  by_cases h1 : a = c
  · by_cases h2 : b = d
    · subst h1; subst h2; simp
    · rw [decide_eq_false h2, decide_eq_false (show ¬ (a, b) = (c, d) from fun z => h2 (Prod.mk.inj z).2)]; simp
  · rw [decide_eq_false h1, decide_eq_false (show ¬ (a, b) = (c, d) from fun z => h1 (Prod.mk.inj z).1)]; simp
theorem eqv_ips : ∀ a b : List (Int × Int), PyData.eqvAll (a.map ipD) (b.map ipD) = decide (a = b)
  | [], [] => rfl
  | [], _ :: _ => rfl
  | _ :: _, [] => rfl
  | p :: a, q :: b => by
    show (PyData.eqv (ipD p) (ipD q) && PyData.eqvAll (a.map ipD) (b.map ipD)) = _
    rw [eqv_ip, eqv_ips a b]
    by_cases h1 : p = q
    · by_cases h2 : a = b
      · subst h1; subst h2; simp
      · rw [decide_eq_false h2, decide_eq_false (fun z => h2 (List.cons.inj z).2)]; simp
    · rw [decide_eq_false h1, decide_eq_false (fun z => h1 (List.cons.inj z).1)]; simp
theorem pairLt_as {x y : Int × Int} (h1 : pairLt y x = false) (h2 : pairLt x y = false) : x = y := by
  obtain ⟨a, b⟩ := x
  obtain ⟨c, d⟩ := y
  unfold pairLt at *
  simp only [Bool.or_eq_false_iff, Bool.and_eq_false_iff, decide_eq_false_iff_not] at *
  refine Prod.ext ?_ ?_ <;> (show (_ : Int) = _; omega)
theorem rise_eq : ∀ {l m : List (Int × Int)}, l.Perm m -> l.Pairwise (fun x y => pairLt y x = false) -> m.Pairwise (fun x y => pairLt y x = false) -> l = m
  | [], m, h, _, _ => h.symm.eq_nil.symm
  | x :: l, [], h, _, _ => absurd h.length_eq (by simp)
  | x :: l, y :: m, h, hl, hm => by
    have e : x = y := by
      have h1 : x ∈ y :: m := h.mem_iff.mp List.mem_cons_self
      have h2 : y ∈ x :: l := h.mem_iff.mpr List.mem_cons_self
      rcases List.mem_cons.mp h1 with z | z
      · exact z
      rcases List.mem_cons.mp h2 with z2 | z2
      · exact z2.symm
      exact pairLt_as (List.rel_of_pairwise_cons hl z2) (List.rel_of_pairwise_cons hm z)
    subst e
    rw [rise_eq (List.Perm.cons_inv h) (List.pairwise_cons.mp hl).2 (List.pairwise_cons.mp hm).2]
noncomputable def idxL (ns : List (Int × Int)) (idx : List Nat) : List (Int × Int) := idx.map fun i => ns.getD i (0, 0)
theorem range_map {α : Type} (d : α) (ns : List α) : ((List.range ns.length).map fun i => ns.getD i d) = ns := by
  refine List.ext_getElem (by simp) fun i h1 h2 => ?_
  simp
  rw [List.getElem?_eq_getElem h2]
  rfl
theorem idx_perm {ns : List (Int × Int)} {idx : List Nat} (h : IdxOk ns idx) : (idxL ns idx).Perm ns := by
  have := h.1.map fun i => ns.getD i (0, 0)
  rwa [range_map] at this
theorem sts_rise (b : Nat) (ws : List (List Nat)) : (sts b ws).Pairwise fun x y => pairLt y x = false := by
  unfold sts
  rw [List.pairwise_map]
  exact strAll_rise b ws ws.length (Nat.le_refl _)
theorem idx_eq {ns m : List (Int × Int)} {idx : List Nat} (h : IdxOk ns idx) (hm : m.Pairwise fun x y => pairLt y x = false) : decide (idxL ns idx = m) = decide (ns.Perm m) := by
  by_cases e : ns.Perm m
  · rw [decide_eq_true e, decide_eq_true (rise_eq ((idx_perm h).trans e) h.2 hm)]
  · rw [decide_eq_false e, decide_eq_false fun z => e (by rw [<- z]; exact (idx_perm h).symm)]
theorem prs_pi {K : PySem.W.Frag} {H : Hp} : ∀ {ps : List PrI}, (∀ p ∈ ps, PiOk H p) -> PrsV K H (piv ps) (ps.map PrI.pair)
  | [], _ => trivial
  | p :: ps, h => ⟨⟨p.t, rfl, SqT.of (h p List.mem_cons_self)⟩, prs_pi fun q hq => h q (List.mem_cons_of_mem _ hq)⟩
theorem rdds_idx {K : PySem.W.Frag} {H : Hp} {ps : List PrI} (h : ∀ p ∈ ps, PiOk H p) : ∀ {idx : List Nat}, (∀ i ∈ idx, i < ps.length) -> RdDs K H (idx.map fun i => (piv ps).getD i .non) ((idxL (ps.map PrI.pair) idx).map ipD)
  | [], _ => .nil
  | i :: idx, hi => by
    have hl := hi i List.mem_cons_self
    have hg : ps[i]? = some ps[i] := List.getElem?_eq_getElem hl
    refine .cons ?_ (rdds_idx h fun j hj => hi j (List.mem_cons_of_mem _ hj))
    show RdD K H ((piv ps).getD i .non) (ipD ((ps.map PrI.pair).getD i (0, 0)))
    rw [List.getD_eq_getElem?_getD, List.getD_eq_getElem?_getD, piv_at hg, List.getElem?_map, hg]
    exact .tup (SqT.of (h _ (List.getElem_mem hl))) (.cons (.int _) (.cons (.int _) .nil))
theorem lay_ip : ∀ l : List (Int × Int), PyData.canLayAll0 (l.map ipD) = true
  | [] => rfl
  | p :: l => by
    show (PyData.canLay0 (ipD p) && PyData.canLayAll0 (l.map ipD)) = true
    rw [lay_ip l]; rfl
theorem dep_ip : ∀ l : List (Int × Int), PyData.depthAll (l.map ipD) <= 1
  | [] => Nat.zero_le _
  | p :: l => Nat.max_le.mpr ⟨Nat.le_of_ble_eq_true rfl, dep_ip l⟩
theorem sts_data (b : Nat) (ws : List (List Nat)) : (strAll b ws ws.length).map prD = (sts b ws).map ipD := by unfold sts; rw [List.map_map]; rfl
theorem bs_lt {y : List Nat} (h : ∀ c ∈ y, Lt c) : ∀ b ∈ bsOf y, b ∈ smalls := fun b hb => by
  have h1 := (bsOf_perm y).mem_iff.mp hb
  rw [<- smalls_low h] at h1
  exact of_decide_eq_true (List.mem_filter.mp h1).2
theorem bs_most (y : List Nat) : (bsOf y).length <= y.length := by rw [(bsOf_perm y).length_eq]; exact List.length_filter_le _ _
noncomputable def sp_look_words (_ : PySem.W.Frag) (c : Addr) : Sp := fun vs H Q E => ∃ (y : List Nat) (wt : Addr) (ws : List (List Nat)), vs = [.str (S y), .ref wt] /\ H wt = some (.tup (txs ws)) /\
  (wOut y 0 ws = none -> ∀ H', Same H H' -> Q .non H') /\ ∀ k, wOut y 0 ws = some k -> ∀ d H', H' d = some (xdO d [("word", .str (S wWords3)), ("at", .int k)]) -> Same H H' -> E (.ref c) (some d) H'
theorem len_look_words {K : PySem.W.Frag} {c : Addr} {vs : List V} {H : Hp} {Q : VK} {E : XK} (h : sp_look_words K c vs H Q E) : vs.length = 2 := by obtain ⟨_, _, _, rfl, _⟩ := h; rfl
noncomputable def sp_look_orders (_ : PySem.W.Frag) (c : Addr) : Sp := fun vs H Q E => ∃ (y : List Nat) (wt ot : Addr) (ws : List (List Nat)) (os : List OI), vs = [.str (S y), .ref wt, .ref ot] /\ (∀ c ∈ y, Lt c) /\ y.length <= 8 /\ (∀ w ∈ ws, ∀ c ∈ w, c ∈ y) /\ Bd 2 ws os /\ H wt = some (.tup (txs ws)) /\ H ot = some (.tup (oiv os)) /\ (∀ o ∈ os, OiOk H o) /\
  (oOut y ws (os.map ois) = none -> ∀ H', Same H H' -> Q .non H') /\ ∀ w k, oOut y ws (os.map ois) = some (w, k) -> ∀ d H', H' d = some (xdO d [("word", .str (S w)), ("at", .int (k : Nat))]) -> Same H H' -> E (.ref c) (some d) H'
theorem len_look_orders {K : PySem.W.Frag} {c : Addr} {vs : List V} {H : Hp} {Q : VK} {E : XK} (h : sp_look_orders K c vs H Q E) : vs.length = 3 := by obtain ⟨_, _, _, _, _, rfl, _⟩ := h; rfl
noncomputable def DrIn (y : List Nat) (H : Hp) (dr : Addr) (ws : List (List Nat)) (os : List OI) : Prop := (∀ c ∈ y, Lt c) /\ y.length <= 8 /\ Bd 2 ws os /\ DiAt H dr ws os
noncomputable def sp_look_drawing (_ : PySem.W.Frag) (c : Addr) : Sp := fun vs H Q E => ∃ (y : List Nat) (dr : Addr) (ws : List (List Nat)) (os : List OI), vs = [.str (S y), .ref dr] /\ DrIn y H dr ws os /\
  (dueO y ws (os.map ois) = none -> ∀ H', Same H H' -> Q (.bl true) H') /\ ∀ w k, dueO y ws (os.map ois) = some (w, k) -> ∀ d H', H' d = some (xdO d [("word", .str (S w)), ("at", .int (k : Nat))]) -> Same H H' -> E (.ref c) (some d) H'
theorem len_look_drawing {K : PySem.W.Frag} {c : Addr} {vs : List V} {H : Hp} {Q : VK} {E : XK} (h : sp_look_drawing K c vs H Q E) : vs.length = 2 := by obtain ⟨_, _, _, _, rfl, _⟩ := h; rfl
noncomputable def wRef3 : List Nat := [114, 101, 102, 117, 115, 101, 100]
noncomputable def wTold3 : List Nat := [116, 111, 108, 100]
noncomputable def RefAt (H : Hp) (p : Addr) (w : List Nat) (k : Nat) : Prop := H p = some (.lst [.str (S wRef3), .str (S w), .int k])
noncomputable def sp_Ldue (_ : PySem.W.Frag) : Sp := fun vs H Q _ => ∃ (y : List Nat) (dr : Addr) (ws : List (List Nat)) (os : List OI), vs = [.str (S y), .ref dr] /\ DrIn y H dr ws os /\
  (dueO y ws (os.map ois) = none -> ∀ H', Same H H' -> Q (.bl true) H') /\ ∀ w k, dueO y ws (os.map ois) = some (w, k) -> ∀ p H', RefAt H' p w k -> Same H H' -> Q (.ref p) H'
theorem len_Ldue {K : PySem.W.Frag} {vs : List V} {H : Hp} {Q : VK} {E : XK} (h : sp_Ldue K vs H Q E) : vs.length = 2 := by obtain ⟨_, _, _, _, rfl, _⟩ := h; rfl
noncomputable def Tells (H : Hp) (Q : VK) (y : List Nat) (ws : List (List Nat)) (os : List OI) : Prop :=
  (dueO y ws (os.map ois) = none -> ∀ t H', H' t = some (.tup [.str (S wTold3), .bl true]) -> Same H H' -> Q (.ref t) H') /\ ∀ w k, dueO y ws (os.map ois) = some (w, k) -> ∀ p H', RefAt H' p w k -> Same H H' -> Q (.ref p) H'
noncomputable def sp_Ltold (_ : PySem.W.Frag) : Sp := fun vs H Q _ => ∃ (y : List Nat) (dr : Addr) (ws : List (List Nat)) (os : List OI), vs = [.str (S y), .ref dr] /\ DrIn y H dr ws os /\ Tells H Q y ws os
theorem len_Ltold {K : PySem.W.Frag} {vs : List V} {H : Hp} {Q : VK} {E : XK} (h : sp_Ltold K vs H Q E) : vs.length = 2 := by obtain ⟨_, _, _, _, rfl, _⟩ := h; rfl
noncomputable def sp_Lwanted (_ : PySem.W.Frag) : Sp := fun vs H Q _ => ∃ (y : List Nat) (dr : Addr) (ws : List (List Nat)) (os : List OI), vs = [.str (S y), .ref dr] /\ DrIn y H dr ws os /\ Tells H Q y ws os
theorem len_Lwanted {K : PySem.W.Frag} {vs : List V} {H : Hp} {Q : VK} {E : XK} (h : sp_Lwanted K vs H Q E) : vs.length = 2 := by obtain ⟨_, _, _, _, rfl, _⟩ := h; rfl
noncomputable def sp_Lsign (_ : PySem.W.Frag) : Sp := fun vs H Q _ => ∃ (b : Addr) (y : List Nat), vs = [.ref b, .str (S y)] /\ BoxAt H b /\ (∀ c ∈ y, c < 128) /\ y.length <= 8 /\ ∀ (x : Nat) H', x < 128 -> BoxAt H' b -> SameB b H H' -> Q (.str (S [x])) H'
theorem len_Lsign {K : PySem.W.Frag} {vs : List V} {H : Hp} {Q : VK} {E : XK} (h : sp_Lsign K vs H Q E) : vs.length = 2 := by obtain ⟨_, _, rfl, _⟩ := h; rfl
noncomputable def sp_Lorderotherwise (_ : PySem.W.Frag) : Sp := fun vs H Q _ => ∃ (b : Addr) (o : OI), vs = [.ref b, .ref o.o] /\ BoxAt H b /\ OiOk H o /\ o.ps.length <= 50 /\ ∀ (o' : OI) H', OiOk H' o' -> o'.ps.length <= o.ps.length + 1 -> BoxAt H' b -> SameB b H H' -> Q (.ref o'.o) H'
theorem len_Lorderotherwise {K : PySem.W.Frag} {vs : List V} {H : Hp} {Q : VK} {E : XK} (h : sp_Lorderotherwise K vs H Q E) : vs.length = 2 := by obtain ⟨_, _, rfl, _⟩ := h; rfl
noncomputable def sp_Lotherwise (_ : PySem.W.Frag) : Sp := fun vs H Q _ => ∃ (b : Addr) (y : List Nat) (dr : Addr) (ws : List (List Nat)) (os : List OI) (j : Nat), vs = [.ref b, .str (S y), .ref dr] /\ BoxAt H b /\ (∀ c ∈ y, c < 128) /\ y.length <= 8 /\ j <= 1 /\ Bd j ws os /\ DiAt H dr ws os /\
  ∀ (dr' : Addr) (ws' : List (List Nat)) (os' : List OI) H', DiAt H' dr' ws' os' -> Bd (j + 1) ws' os' -> BoxAt H' b -> SameB b H H' -> Q (.ref dr') H'
theorem len_Lotherwise {K : PySem.W.Frag} {vs : List V} {H : Hp} {Q : VK} {E : XK} (h : sp_Lotherwise K vs H Q E) : vs.length = 3 := by obtain ⟨_, _, _, _, _, _, rfl, _⟩ := h; rfl
noncomputable def sp_Lotheryard (_ : PySem.W.Frag) : Sp := fun vs H Q _ => ∃ (b : Addr) (y : List Nat), vs = [.ref b, .str (S y)] /\ BoxAt H b /\ Yd y /\ 2 <= y.length /\ y.length <= 8 /\ ∀ (y' : List Nat) H', (∀ c ∈ y', Lt c) -> y'.length = y.length -> BoxAt H' b -> SameB b H H' -> Q (.str (S y')) H'
theorem len_Lotheryard {K : PySem.W.Frag} {vs : List V} {H : Hp} {Q : VK} {E : XK} (h : sp_Lotheryard K vs H Q E) : vs.length = 2 := by obtain ⟨_, _, rfl, _⟩ := h; rfl
theorem cut_piv (l : List PrI) (lo hi : Option Int) : cutV (piv l) lo hi = piv (cut l lo hi) := by unfold piv cutV cut; rw [List.length_map, <- List.map_drop, <- List.map_take]
theorem cut_oiv (l : List OI) (lo hi : Option Int) : cutV (oiv l) lo hi = oiv (cut l lo hi) := by unfold oiv cutV cut; rw [List.length_map, <- List.map_drop, <- List.map_take]
theorem cut_txs3 (l : List (List Nat)) (lo hi : Option Int) : cutV (txs l) lo hi = txs (cut l lo hi) := by unfold txs cutV cut; rw [List.length_map, <- List.map_drop, <- List.map_take]
theorem cutX {H5 : Hp} {X : Hp -> Prop} {G : Prop} (f : (∀ H6, Same H5 H6 -> X H6) -> G) (x : ∀ H6, Same H5 H6 -> X H6) : G := f x
theorem wOut_lt {y : List Nat} : ∀ {ws : List (List Nat)} {k0 k : Nat}, wOut y k0 ws = some k -> k < k0 + ws.length
  | [], _, _, h => by cases h
  | w :: ws, k0, k, h => by
    unfold wOut at h
    rw [List.length_cons]
    by_cases e : frn y w = none
    · rw [if_pos e] at h
      have := wOut_lt h
      omega
    · rw [if_neg e] at h; cases h; omega
theorem sOut_lt {ws : List (List Nat)} : ∀ {bs : List Nat} {L : List (List (Int × Int))} {k0 k : Nat}, sOut ws k0 bs L = some k -> k < k0 + bs.length
  | [], _, _, _, h => by unfold sOut at h; cases h
  | _ :: _, [], _, _, h => by unfold sOut at h; cases h
  | b :: bs, ns :: L, k0, k, h => by
    unfold sOut at h
    rw [List.length_cons]
    by_cases e : ns.Perm (sts b ws)
    · rw [if_pos e] at h
      have := sOut_lt h
      omega
    · rw [if_neg e] at h; cases h; omega
theorem sOut_none {ws : List (List Nat)} : ∀ {bs : List Nat} {L : List (List (Int × Int))} {k0 : Nat}, (∀ (j b : Nat) (ns : List (Int × Int)), bs[j]? = some b -> L[j]? = some ns -> ns.Perm (sts b ws)) -> sOut ws k0 bs L = none
  | [], _, _, _ => by unfold sOut; rfl
  | _ :: _, [], _, _ => by unfold sOut; rfl
  | b :: bs, ns :: L, k0, h => by
    unfold sOut
    rw [if_pos (h 0 b ns rfl rfl)]
    exact sOut_none fun j b' ns' h1 h2 => h (j + 1) b' ns' (by simpa using h1) (by simpa using h2)
theorem ois_of (o : Od) : ois (oiOf o) = (o.ps.map Pr.pair).map pz := by unfold ois oiOf; rw [List.map_map, List.map_map]; rfl
theorem good_due {y : List Nat} {ws : List (List Nat)} {os : List Od} (hw : WsOk y ws) (ho : OsOk y ws os) : dueO y ws ((os.map oiOf).map ois) = none := by
  rw [dueO_o (wOut_all fun w h => (hw.all w h).1)]
  unfold oOut
  rw [List.length_map, List.length_map, if_pos ho.1, sOut_none fun j b ns hb hn => ?_]
  · rfl
  rw [List.getElem?_map, List.getElem?_map] at hn
  cases e : os[j]? with
  | none => rw [e] at hn; cases hn
  | some o =>
    rw [e] at hn
    cases hn
    rw [ois_of]
    exact (ho.2 j o b e hb).map pz
theorem good_bd {y : List Nat} {ws : List (List Nat)} {os : List Od} (hy : Yd y) (hz : y.length <= 8) (hw : WsOk y ws) (ho : OsOk y ws os) : Bd 0 ws (os.map oiOf) := by
  have hbl := bsOf_len hy
  have h1 := ho.1
  refine ⟨hw.few, fun w h => ⟨fun c hc => (hy.lt c ((hw.all w h).1 c hc)).lt, (hw.all w h).2⟩, by rw [List.length_map]; omega, fun o h => ?_⟩
  obtain ⟨u, hu, rfl⟩ := List.mem_map.mp h
  obtain ⟨j, hj⟩ := List.mem_iff_getElem?.mp hu
  have hjb : j < (bsOf y).length := by rw [<- h1]; exact (List.getElem?_eq_some_iff.mp hj).1
  have h2 := (ho.2 j u _ hj (List.getElem?_eq_getElem hjb)).length_eq
  have h3 := strAll_len (bsOf y)[j] (fun w h => (hw.all w h).2) ws.length (Nat.le_refl _)
  have h4 := hw.few
  show (u.ps.map piOf).length <= 48 + 0
  rw [List.length_map]
  rw [List.length_map] at h2
  omega
theorem Bd.up {j k : Nat} {ws : List (List Nat)} {os : List OI} (h : Bd j ws os) (hk : j <= k) : Bd k ws os := ⟨h.few, h.wd, by have := h.om; omega, fun o ho => by have := h.op o ho; omega⟩
noncomputable def told3 : PyData := .tuple [.str (S wTold3), .bool true]
theorem rd_told3 {K : PySem.W.Frag} {H : Hp} {t : Addr} (h : H t = some (.tup [.str (S wTold3), .bl true])) : RdD K H (.ref t) told3 := .tup (SqT.of h) (.cons (.str _) (.cons (.bl _) .nil))
theorem sm_told3 : SmD 40 100000 told3 := .tup (.cons (a := 4) (b := 1) (.str (by decide) (by decide)) (.cons (a := 0) (b := 0) (.bl true) .nil (by decide)) (by decide))
theorem tells_one (K : PySem.W.Frag) {y : List Nat} {ws : List (List Nat)} {os : List OI} (hy : y.length <= 8) (hB : Bd 2 ws os) : ∃ D, SmD 40 100000 D /\ ∀ {H : Hp} {Q : VK}, (∀ v H', RdD K H' v D -> Same H H' -> Q v H') -> Tells H Q y ws os := by
  cases e : dueO y ws (os.map ois) with
  | none => exact ⟨told3, sm_told3, fun {H Q} h => ⟨fun _ t H' ht s => h _ _ (rd_told3 ht) s, fun w k e2 => by rw [e] at e2; cases e2⟩⟩
  | some wk =>
    obtain ⟨w, k⟩ := wk
    have hbl := bs_most y
    have hw : (w = wWords3 \/ w = wBands3 \/ w = wStrands3) /\ k <= 1000 := by
      cases e1 : wOut y 0 ws with
      | some n =>
        rw [dueO_w e1] at e
        cases e
        have := wOut_lt e1
        have := hB.few
        exact ⟨.inl rfl, by omega⟩
      | none =>
        rw [dueO_o e1] at e
        unfold oOut at e
        rw [List.length_map] at e
        split at e
        · cases e2 : sOut ws 0 (bsOf y) (os.map ois) with
          | none => rw [e2] at e; cases e
          | some n =>
            rw [e2] at e
            cases e
            have := sOut_lt e2
            exact ⟨.inr (.inr rfl), by omega⟩
        · cases e
          have := hB.om
          exact ⟨.inr (.inl rfl), by omega⟩
    refine ⟨.list [.str (S wRef3), .str (S w), .int k], .lst (.cons (a := 7) (b := 60) (.str (by decide) (by decide)) (.cons (a := 7) (b := 41) (.str ?_ ?_) (.cons (a := 40) (b := 0) (.int (by show k < 10 ^ 12; omega) (by decide)) .nil (by decide)) (by decide)) (by decide)), fun {H Q} h => ⟨(fun e2 => by rw [e] at e2; cases e2), fun w2 k2 e2 p H' hp s => ?_⟩⟩
    · rcases hw.1 with rfl | rfl | rfl <;> decide
    · rcases hw.1 with rfl | rfl | rfl <;> decide
    · rw [e] at e2
      cases e2
      exact h _ _ (.lst (SqL.of hp) (.cons (.str _) (.cons (.str _) (.cons (.int _) .nil)))) s
theorem max_min9 (L : Int) (h0 : 0 <= L) : ∃ m : Nat, (if (if L < 9 then L else 9) > 5 then (if L < 9 then L else 9) else 5) = (m : Int) /\ 5 <= m /\ m <= 9 := by
  by_cases c1 : L < 9
  · rw [if_pos c1]
    by_cases c2 : L > 5
    · rw [if_pos c2]; exact ⟨L.toNat, by omega, by omega, by omega⟩
    · rw [if_neg c2]; exact ⟨5, rfl, by decide, by decide⟩
  · rw [if_neg c1]; exact ⟨9, rfl, by decide, by decide⟩
theorem cutY {H5 : Hp} {P : List Nat -> Prop} {X : List Nat -> Hp -> Prop} {G : Prop} (f : (∀ y1 H6, P y1 -> Same H5 H6 -> X y1 H6) -> G) (x : ∀ y1 H6, P y1 -> Same H5 H6 -> X y1 H6) : G := f x
theorem cutB {HA : Hp} {X : Addr -> Hp -> Prop} {G : Prop} (f : (∀ dr ws os H6, DiAt H6 dr ws os -> Bd 2 ws os -> Same HA H6 -> X dr H6) -> G) (x : ∀ dr ws os H6, DiAt H6 dr ws os -> Bd 2 ws os -> Same HA H6 -> X dr H6) : G := f x
theorem rt_told3 : RT told3 = [40, 39, 116, 111, 108, 100, 39, 44, 32, 84, 114, 117, 101, 41] := by decide +kernel
noncomputable def top (i : Nat) : Stmt := PySem.Challenge.pw_mustmeet_k13_drawings_looked_at.main.body.getD i (.Pass ⟨0, 0, 0, 0⟩)
noncomputable abbrev s_foreign_sign : Stmt := top 16
noncomputable abbrev s_bands : Stmt := top 17
noncomputable abbrev s_strands_in : Stmt := top 19
noncomputable abbrev s_look_words : Stmt := top 20
noncomputable abbrev s_look_orders : Stmt := top 21
noncomputable abbrev s_look_drawing : Stmt := top 22
noncomputable abbrev s_Lbox : Stmt := top 24
noncomputable abbrev s_Ltake : Stmt := top 25
noncomputable abbrev s_Lother : Stmt := top 26
noncomputable abbrev s_Lyard : Stmt := top 27
noncomputable abbrev s_Lword : Stmt := top 28
noncomputable abbrev s_Lorder : Stmt := top 29
noncomputable abbrev s_Lbands : Stmt := top 30
noncomputable abbrev s_Ldrawing : Stmt := top 31
noncomputable abbrev s_Lwords : Stmt := top 32
noncomputable abbrev s_Lstrands : Stmt := top 33
noncomputable abbrev s_Lsign : Stmt := top 34
noncomputable abbrev s_Lorderotherwise : Stmt := top 35
noncomputable abbrev s_Lotherwise : Stmt := top 36
noncomputable abbrev s_Ldue : Stmt := top 37
noncomputable abbrev s_Ltold : Stmt := top 38
noncomputable abbrev s_Lotheryard : Stmt := top 39
noncomputable abbrev s_Lwanted : Stmt := top 40
noncomputable abbrev s_law : Stmt := top 41
structure FunAt (K : PySem.W.Frag) (mg : Str -> Option Value) (x : Str) (st : Stmt) (ps : List Str) (f : Addr) (fd : FuncData) : Prop where
  fn : Fun K x x st f fd
  mg : mg x = some (.ref f)
  bd : Binds K fd ps []
noncomputable abbrev s_i_NoDrawing : Stmt := inC (top 4) 0
structure Txt (K : PySem.W.Frag) (mg : Str -> Option Value) (f0 f1 f2 f3 f4 f5 f6 f7 f8 f9 f10 f11 f12 f13 f14 f15 f16 f17 f18 f19 f20 f21 f22 f23 c_NoDrawing c_MeetError c_NoCut c_NoDeed c_NoName c_NoPaper c_NoRow c_NoText c_NoWord c_NoYard c_NotApart c_NotLone c_TooLong c_Twice g_NoDrawing : Addr) (d0 d1 d2 d3 d4 d5 d6 d7 d8 d9 d10 d11 d12 d13 d14 d15 d16 d17 d18 d19 d20 d21 d22 d23 e_NoDrawing : FuncData) : Prop where
  F0 : FunAt K mg "foreign_sign" s_foreign_sign ["yard", "text"] f0 d0
  F1 : FunAt K mg "bands" s_bands ["yard"] f1 d1
  F2 : FunAt K mg "strands_in" s_strands_in ["words", "band"] f2 d2
  F3 : FunAt K mg "look_words" s_look_words ["yard", "words"] f3 d3
  F4 : FunAt K mg "look_orders" s_look_orders ["yard", "words", "orders"] f4 d4
  F5 : FunAt K mg "look_drawing" s_look_drawing ["yard", "drawing"] f5 d5
  F6 : FunAt K mg "_law_box" s_Lbox ["_law_script", "_law_k"] f6 d6
  F7 : FunAt K mg "_law_take" s_Ltake ["_law_box_here", "_law_many"] f7 d7
  F8 : FunAt K mg "_law_other" s_Lother ["_law_letter"] f8 d8
  F9 : FunAt K mg "_law_yard" s_Lyard ["_law_box_here", "_law_few", "_law_top"] f9 d9
  F10 : FunAt K mg "_law_word" s_Lword ["_law_box_here", "_law_yard_here", "_law_top"] f10 d10
  F11 : FunAt K mg "_law_order" s_Lorder ["_law_box_here", "_law_things"] f11 d11
  F12 : FunAt K mg "_law_bands" s_Lbands ["_law_yard_here"] f12 d12
  F13 : FunAt K mg "_law_drawing" s_Ldrawing ["_law_box_here", "_law_yard_here", "_law_words_here"] f13 d13
  F14 : FunAt K mg "_law_words" s_Lwords ["_law_box_here", "_law_yard_here"] f14 d14
  F15 : FunAt K mg "_law_strands" s_Lstrands ["_law_words_here", "_law_band"] f15 d15
  F16 : FunAt K mg "_law_sign" s_Lsign ["_law_box_here", "_law_yard_here"] f16 d16
  F17 : FunAt K mg "_law_order_otherwise" s_Lorderotherwise ["_law_box_here", "_law_order_here"] f17 d17
  F18 : FunAt K mg "_law_otherwise" s_Lotherwise ["_law_box_here", "_law_yard_here", "_law_drawing_here"] f18 d18
  F19 : FunAt K mg "_law_due" s_Ldue ["_law_yard_here", "_law_drawing_here"] f19 d19
  F20 : FunAt K mg "_law_told" s_Ltold ["_law_yard_here", "_law_drawing_here"] f20 d20
  F21 : FunAt K mg "_law_other_yard" s_Lotheryard ["_law_box_here", "_law_yard_here"] f21 d21
  F22 : FunAt K mg "_law_wanted" s_Lwanted ["_law_yard_here", "_law_drawing_here"] f22 d22
  F23 : FunAt K mg "law" s_law ["_law_script"] f23 d23
  m_NoDrawing : mg "NoDrawing" = some (.ref c_NoDrawing)
  m_MeetError : mg "MeetError" = some (.ref c_MeetError)
  m_NoCut : mg "NoCut" = some (.ref c_NoCut)
  m_NoDeed : mg "NoDeed" = some (.ref c_NoDeed)
  m_NoName : mg "NoName" = some (.ref c_NoName)
  m_NoPaper : mg "NoPaper" = some (.ref c_NoPaper)
  m_NoRow : mg "NoRow" = some (.ref c_NoRow)
  m_NoText : mg "NoText" = some (.ref c_NoText)
  m_NoWord : mg "NoWord" = some (.ref c_NoWord)
  m_NoYard : mg "NoYard" = some (.ref c_NoYard)
  m_NotApart : mg "NotApart" = some (.ref c_NotApart)
  m_NotLone : mg "NotLone" = some (.ref c_NotLone)
  m_TooLong : mg "TooLong" = some (.ref c_TooLong)
  m_Twice : mg "Twice" = some (.ref c_Twice)
  x_NoDrawing : XC K c_NoDrawing
  r_NoDrawing : PySem.W.mroIn K c_NoDrawing (.ref c_MeetError) = some true
  x_MeetError : XC K c_MeetError
  i_NoDrawing : XInit K c_NoDrawing g_NoDrawing
  I_NoDrawing : Fun K "__init__" "NoDrawing.__init__" s_i_NoDrawing g_NoDrawing e_NoDrawing
  b_NoDrawing : Binds K e_NoDrawing ["self", "word", "at"] []
  n_NoDrawing_word : NoAttr K c_NoDrawing "word"
  n_NoDrawing_at : NoAttr K c_NoDrawing "at"
  xb : XBase K c_MeetError
  k_NoDrawing_NoCut : PySem.W.kitOne K (.ref c_NoDrawing) (.ref c_NoCut) = some false
  k_NoDrawing_NoDeed : PySem.W.kitOne K (.ref c_NoDrawing) (.ref c_NoDeed) = some false
  k_NoDrawing_NoName : PySem.W.kitOne K (.ref c_NoDrawing) (.ref c_NoName) = some false
  k_NoDrawing_NoPaper : PySem.W.kitOne K (.ref c_NoDrawing) (.ref c_NoPaper) = some false
  k_NoDrawing_NoRow : PySem.W.kitOne K (.ref c_NoDrawing) (.ref c_NoRow) = some false
  k_NoDrawing_NoText : PySem.W.kitOne K (.ref c_NoDrawing) (.ref c_NoText) = some false
  k_NoDrawing_NoWord : PySem.W.kitOne K (.ref c_NoDrawing) (.ref c_NoWord) = some false
  k_NoDrawing_NoYard : PySem.W.kitOne K (.ref c_NoDrawing) (.ref c_NoYard) = some false
  k_NoDrawing_NotApart : PySem.W.kitOne K (.ref c_NoDrawing) (.ref c_NotApart) = some false
  k_NoDrawing_NotLone : PySem.W.kitOne K (.ref c_NoDrawing) (.ref c_NotLone) = some false
  k_NoDrawing_TooLong : PySem.W.kitOne K (.ref c_NoDrawing) (.ref c_TooLong) = some false
  k_NoDrawing_Twice : PySem.W.kitOne K (.ref c_NoDrawing) (.ref c_Twice) = some false
  k_NoDrawing_NoDrawing : PySem.W.kitOne K (.ref c_NoDrawing) (.ref c_NoDrawing) = some true
  k_NoDrawing_ValueError : PySem.W.kitOne K (.ref c_NoDrawing) (.type "ValueError") = some true
  z_ValueError : mg "ValueError" = none
  z_enumerate : mg "enumerate" = none
  z_int : mg "int" = none
  z_isinstance : mg "isinstance" = none
  z_len : mg "len" = none
  z_list : mg "list" = none
  z_max : mg "max" = none
  z_min : mg "min" = none
  z_range : mg "range" = none
  z_repr : mg "repr" = none
  z_sorted : mg "sorted" = none
  z_tuple : mg "tuple" = none
theorem sc_foreign_sign : FnScope ["yard", "text", "at", "sign"] ["yard", "text"] (defScope s_foreign_sign) := ⟨rfl, rfl, rfl, by decide +kernel, rfl, by decide +kernel, by decide +kernel⟩
theorem sc_bands : FnScope ["yard"] ["yard"] (defScope s_bands) := ⟨rfl, rfl, rfl, by decide +kernel, rfl, by decide +kernel, by decide +kernel⟩
theorem sc_strands_in : FnScope ["words", "band", "found", "cord", "word", "place", "letter"] ["words", "band"] (defScope s_strands_in) := ⟨rfl, rfl, rfl, by decide +kernel, rfl, by decide +kernel, by decide +kernel⟩
theorem sc_look_words : FnScope ["yard", "words", "number", "word"] ["yard", "words"] (defScope s_look_words) := ⟨rfl, rfl, rfl, by decide +kernel, rfl, by decide +kernel, by decide +kernel⟩
theorem sc_look_orders : FnScope ["yard", "words", "orders", "names", "number", "band"] ["yard", "words", "orders"] (defScope s_look_orders) := ⟨rfl, rfl, rfl, by decide +kernel, rfl, by decide +kernel, by decide +kernel⟩
theorem sc_look_drawing : FnScope ["yard", "drawing"] ["yard", "drawing"] (defScope s_look_drawing) := ⟨rfl, rfl, rfl, by decide +kernel, rfl, by decide +kernel, by decide +kernel⟩
theorem sc_Lbox : FnScope ["_law_script", "_law_k", "_law_cell", "_law_seed"] ["_law_script", "_law_k"] (defScope s_Lbox) := ⟨rfl, rfl, rfl, by decide +kernel, rfl, by decide +kernel, by decide +kernel⟩
theorem sc_Ltake : FnScope ["_law_box_here", "_law_many", "_law_digit", "_law_one"] ["_law_box_here", "_law_many"] (defScope s_Ltake) := ⟨rfl, rfl, rfl, by decide +kernel, rfl, by decide +kernel, by decide +kernel⟩
theorem sc_Lother : FnScope ["_law_letter", "_law_small", "_law_capital"] ["_law_letter"] (defScope s_Lother) := ⟨rfl, rfl, rfl, by decide +kernel, rfl, by decide +kernel, by decide +kernel⟩
theorem sc_Lyard : FnScope ["_law_box_here", "_law_few", "_law_top", "_law_left", "_law_ends", "_law_k", "_law_letter", "_law_found"] ["_law_box_here", "_law_few", "_law_top"] (defScope s_Lyard) := ⟨rfl, rfl, rfl, by decide +kernel, rfl, by decide +kernel, by decide +kernel⟩
theorem sc_Lword : FnScope ["_law_box_here", "_law_yard_here", "_law_top"] ["_law_box_here", "_law_yard_here", "_law_top"] (defScope s_Lword) := ⟨rfl, rfl, rfl, by decide +kernel, rfl, by decide +kernel, by decide +kernel⟩
theorem sc_Lorder : FnScope ["_law_box_here", "_law_things", "_law_left", "_law_found"] ["_law_box_here", "_law_things"] (defScope s_Lorder) := ⟨rfl, rfl, rfl, by decide +kernel, rfl, by decide +kernel, by decide +kernel⟩
theorem sc_Lbands : FnScope ["_law_yard_here"] ["_law_yard_here"] (defScope s_Lbands) := ⟨rfl, rfl, rfl, by decide +kernel, rfl, by decide +kernel, by decide +kernel⟩
theorem sc_Ldrawing : FnScope ["_law_box_here", "_law_yard_here", "_law_words_here", "_law_orders", "_law_band", "_law_some", "_law_c", "_law_word_here"] ["_law_box_here", "_law_yard_here", "_law_words_here"] (defScope s_Ldrawing) := ⟨rfl, rfl, rfl, by decide +kernel, rfl, by decide +kernel, by decide +kernel⟩
theorem sc_Lwords : FnScope ["_law_box_here", "_law_yard_here", "_law_left", "_law_found", "_law_k", "_law_word_here"] ["_law_box_here", "_law_yard_here"] (defScope s_Lwords) := ⟨rfl, rfl, rfl, by decide +kernel, rfl, by decide +kernel, by decide +kernel⟩
theorem sc_Lstrands : FnScope ["_law_words_here", "_law_band", "_law_found", "_law_c", "_law_word_here"] ["_law_words_here", "_law_band"] (defScope s_Lstrands) := ⟨rfl, rfl, rfl, by decide +kernel, rfl, by decide +kernel, by decide +kernel⟩
theorem sc_Lsign : FnScope ["_law_box_here", "_law_yard_here", "_law_signs", "_law_letters"] ["_law_box_here", "_law_yard_here"] (defScope s_Lsign) := ⟨rfl, rfl, rfl, by decide +kernel, rfl, by decide +kernel, by decide +kernel⟩
theorem sc_Lorderotherwise : FnScope ["_law_box_here", "_law_order_here", "_law_form", "_law_at", "_law_number", "_law_c", "_law_i"] ["_law_box_here", "_law_order_here"] (defScope s_Lorderotherwise) := ⟨rfl, rfl, rfl, by decide +kernel, rfl, by decide +kernel, by decide +kernel⟩
theorem sc_Lotherwise : FnScope ["_law_box_here", "_law_yard_here", "_law_drawing_here", "_law_words_here", "_law_orders", "_law_form", "_law_at", "_law_c", "_law_i", "_law_word_here", "_law_more"] ["_law_box_here", "_law_yard_here", "_law_drawing_here"] (defScope s_Lotherwise) := ⟨rfl, rfl, rfl, by decide +kernel, rfl, by decide +kernel, by decide +kernel⟩
theorem sc_Ldue : FnScope ["_law_yard_here", "_law_drawing_here", "_law_words_here", "_law_orders", "_law_c", "_law_word_here", "_law_names", "_law_k", "_law_strands_here"] ["_law_yard_here", "_law_drawing_here"] (defScope s_Ldue) := ⟨rfl, rfl, rfl, by decide +kernel, rfl, by decide +kernel, by decide +kernel⟩
theorem sc_Ltold : FnScope ["_law_yard_here", "_law_drawing_here", "_law_found", "_law_caught", "e", "_law_others", "_law_more"] ["_law_yard_here", "_law_drawing_here"] (defScope s_Ltold) := ⟨rfl, rfl, rfl, by decide +kernel, rfl, by decide +kernel, by decide +kernel⟩
theorem sc_Lotheryard : FnScope ["_law_box_here", "_law_yard_here", "_law_names", "_law_band", "_law_fresh", "_law_found"] ["_law_box_here", "_law_yard_here"] (defScope s_Lotheryard) := ⟨rfl, rfl, rfl, by decide +kernel, rfl, by decide +kernel, by decide +kernel⟩
theorem sc_Lwanted : FnScope ["_law_yard_here", "_law_drawing_here", "_law_due_here"] ["_law_yard_here", "_law_drawing_here"] (defScope s_Lwanted) := ⟨rfl, rfl, rfl, by decide +kernel, rfl, by decide +kernel, by decide +kernel⟩
theorem sc_law : FnScope ["_law_script", "_law_box_here", "_law_yard_here", "_law_words_here", "_law_good", "_law_some", "_law_k", "_law_twice", "_law_bad"] ["_law_script"] (defScope s_law) := ⟨rfl, rfl, rfl, by decide +kernel, rfl, by decide +kernel, by decide +kernel⟩
section
variable {P : Program} {w : World} {K : PySem.W.Frag} {mg : Str -> Option Value} {base : Heap} {f0 f1 f2 f3 f4 f5 f6 f7 f8 f9 f10 f11 f12 f13 f14 f15 f16 f17 f18 f19 f20 f21 f22 f23 c_NoDrawing c_MeetError c_NoCut c_NoDeed c_NoName c_NoPaper c_NoRow c_NoText c_NoWord c_NoYard c_NotApart c_NotLone c_TooLong c_Twice g_NoDrawing : Addr} {d0 d1 d2 d3 d4 d5 d6 d7 d8 d9 d10 d11 d12 d13 d14 d15 d16 d17 d18 d19 d20 d21 d22 d23 e_NoDrawing : FuncData}
variable (T : Txt K mg f0 f1 f2 f3 f4 f5 f6 f7 f8 f9 f10 f11 f12 f13 f14 f15 f16 f17 f18 f19 f20 f21 f22 f23 c_NoDrawing c_MeetError c_NoCut c_NoDeed c_NoName c_NoPaper c_NoRow c_NoText c_NoWord c_NoYard c_NotApart c_NotLone c_TooLong c_Twice g_NoDrawing d0 d1 d2 d3 d4 d5 d6 d7 d8 d9 d10 d11 d12 d13 d14 d15 d16 d17 d18 d19 d20 d21 d22 d23 e_NoDrawing)
include T
theorem okV_Lbands : FnOkV P w K mg base 1 f12 d12 ["_law_yard_here"] (sp_Lbands K) (fun s u s' => LsTk (s.toks + 1) u s') := by
  refine T.F12.fn.okV sc_Lbands (fun vs H Q E h => len_Lbands h) ⟨_, _, rfl, rfl⟩ (fun cdv A outer s H vs Q E hr h => ?_)
  refine ⟨_, (pssv_retSorted (j := 0) ["_law_letter"] [none] rfl T.z_sorted (pix_name (i := 0) rfl (Or.inl rfl)) trivial (by decide +kernel) rfl (fun _ _ _ _ => ptk_in (i := 0) [97, 98, 99, 100, 101, 102, 103, 104, 105, 106, 107, 108, 109, 110, 111, 112, 113, 114, 115, 116, 117, 118, 119, 120, 121, 122] (by decide +kernel) rfl (Or.inl rfl))), ?_⟩
  obtain ⟨y, rfl, hz, q⟩ := h
  have hs : (1000 : Nat) < sizeLine := by decide
  refine ⟨_, rfl, y, rfl, ?_⟩
  refine comp_fix (xs := sgs y) (fun i acc H' => Same H H' /\ acc = sgs ((y.take i).filter fun c => decide (c ∈ smalls))) (by rw [sgs_len]; omega) ⟨Same.refl H, rfl⟩ ?_ ?_
  · rintro i x acc H1 Nx hi hx hal ⟨s1, rfl⟩ nx
    obtain ⟨c, hc, rfl⟩ := sgs_get hx
    have e := filter_take (p := fun c => decide (c ∈ smalls)) hc
    refine ⟨trivial, ?_⟩
    refine ⟨_, rfl, c, smalls, rfl, rfl, _, rfl, ?_⟩
    refine ite2 (fun z => ?_) (fun z => ?_)
    · rw [if_pos z] at e
      exact ⟨_, rfl, nx _ _ (by simpa using hal) ⟨s1, by rw [e, <- sgs_snoc]⟩⟩
    · rw [if_neg z, List.append_nil] at e
      exact nx _ _ (Nat.le_succ_of_le hal) ⟨s1, by rw [e]⟩
  · rintro acc H1 D hal ⟨s1, rfl⟩ hD
    rw [sgs_take, sgs_lists]
    have hfl : (y.filter fun c => decide (c ∈ smalls)).length <= y.length := List.length_filter_le _ _
    refine ⟨D, (y.filter fun c => decide (c ∈ smalls)).map fun c => [c], rfl, SqL.of upd_same, by rw [List.length_map]; omega, fun p ls hp hpm hpw => ?_⟩
    obtain ⟨l', rfl, pl⟩ := ones_of hpm
    refine q p l' _ (Same.free (Same.trans s1 (Same.upd hD)) hp) (by rw [upd_same, <- sgs_lists]) pl (ones_pw hpw) ((s1.trans (Same.upd hD)).trans (Same.upd hp))
theorem ok_Lbands : FnOk P w K mg base CX0 1 f12 d12 ["_law_yard_here"] (sp_Lbands K) := (okV_Lbands T).fn
theorem ok_foreign_sign : FnOk P w K mg base CX0 1 f0 d0 ["yard", "text"] (sp_foreign_sign K) := by
  refine T.F0.fn.ok sc_foreign_sign (fun vs H Q E h => len_foreign_sign h) (fun cdv A outer s H vs Q E hr h => ?_)
  refine ⟨_, (pss_cons (ps_for PassesOwn.never rfl (pi_enumS rfl T.z_enumerate (pa_cons (pv 1) pa_nil)) (pg_tupK (n := 2) K rfl rfl (pgs_cons (pg_name (i := 2) sc_foreign_sign.nd rfl (Or.inl rfl)) (pgs_cons (pg_name (i := 3) sc_foreign_sign.nd rfl (Or.inl rfl)) pgs_nil))) (pss_one (ps_if (pt_cmpR op_ninS (pv 3) (pv 0) (by with_unfolding_all rfl)) (pss_one (ps_ret (pv 2))) pss_nil)))
      (pss_one (ps_ret pe_non))), ?_⟩
  obtain ⟨y, w, rfl, q⟩ := h
  refine ⟨_, rfl, w, rfl, ?_⟩
  refine for_enum (fun i σ H' => ∃ av sv : Option V, σ = [some (.str (S y)), some (.str (S w)), av, sv] /\ (∀ d ∈ w.take i, d ∈ y) /\ Same H H') ⟨none, none, rfl, fun _ h => by simp at h, Same.refl H⟩ ?_ ?_
  · rintro i c σ H1 T hc ⟨av, sv, rfl, hy, s1⟩ nT
    refine ⟨T, _, rfl, SqT.of upd_same, rfl, _, _, rfl, _, _, rfl, rfl, ?_⟩
    refine ⟨_, rfl, _, rfl, c, y, rfl, rfl, _, rfl, ite2 (fun z => ?_) (fun z => ?_)⟩
    · have hn : c ∉ y := by simpa using z
      refine ⟨_, rfl, ?_⟩
      rw [frn_at hc hn hy] at q
      exact q _ (s1.trans (Same.upd nT))
    · have hn : c ∈ y := by simpa using z
      refine ⟨_, _, rfl, fun d hd => ?_, s1.trans (Same.upd nT)⟩
      rw [List.take_add_one, hc] at hd
      rcases List.mem_append.mp hd with g | g
      · exact hy d g
      · rw [List.mem_singleton.mp g]; exact hn
  · rintro σ H1 ⟨av, sv, rfl, hy, s1⟩
    rw [frn_no (y := y) (l := w) (by rw [List.take_length] at hy; exact hy)] at q
    exact q _ s1
omit T in theorem sc_i_NoDrawing : FnScope ["self", "word", "at"] ["self", "word", "at"] (defScope s_i_NoDrawing) := ⟨rfl, rfl, rfl, by decide +kernel, rfl, by decide +kernel, by decide +kernel⟩
theorem ok_i_NoDrawing : FnOk P w K mg base CX0 1 g_NoDrawing e_NoDrawing ["self", "word", "at"] (sp_X2 c_NoDrawing "word" "at") := by
  refine T.I_NoDrawing.ok sc_i_NoDrawing (fun vs H Q E h => len_X2 h) (fun cdv A outer s H vs Q E hr h => ?_)
  refine ⟨_, (pss_cons (ps_expr (pe_xinit T.xb rfl T.m_MeetError (pa_cons (pv 0) (pa_cons (pv 1) (pa_cons (pv 2) pa_nil))))) (pss_cons (ps_xfld (pv 0) (pv 1) rfl) (pss_one (ps_xfld (pv 0) (pv 2) rfl)))), ?_⟩
  obtain ⟨e, v, u, rfl, fg, he, q⟩ := h
  refine ⟨_, rfl, _, rfl, _, rfl, e, c_NoDrawing, none, [v, u], rfl, by show 2 <= sizeLine; decide, he, T.x_NoDrawing, _, rfl, _, rfl, e, c_NoDrawing, rfl, T.x_NoDrawing, T.n_NoDrawing_word, .inl ⟨he, fun d nd ne => ?_⟩⟩
  refine ⟨_, rfl, _, rfl, e, c_NoDrawing, rfl, T.x_NoDrawing, T.n_NoDrawing_at, .inr ⟨d, _, by rw [upd_ne (Ne.symm ne)]; exact upd_same, upd_same, ne, by show 1 < 1000; decide, ?_⟩⟩
  rw [put2 fg, upd_upd]
  exact q d nd ne
theorem ok_look_words : FnOk P w K mg base (CXF P w K) 3 f3 d3 ["yard", "words"] (sp_look_words K c_NoDrawing) := by
  have G_foreign_sign := ok_foreign_sign (P := P) (w := w) (base := base) T
  have G_i_NoDrawing := ok_i_NoDrawing (P := P) (w := w) (base := base) T
  refine T.F3.fn.okX sc_look_words (fun vs H Q E h => len_look_words h) (fun cdv A outer s H vs Q E hr h => ?_)
  refine ⟨_, (pss_one (ps_for (PassesOwn.leaving) rfl (pi_enumT K rfl rfl T.z_enumerate (pa_cons (pv 1) pa_nil)) (pg_tupK (n := 2) K rfl rfl (pgs_cons (pg_name (i := 2) sc_look_words.nd rfl (Or.inl rfl)) (pgs_cons (pg_name (i := 3) sc_look_words.nd rfl (Or.inl rfl)) pgs_nil))) (pss_one (ps_if (pt_cmpR op_notN (pe_call G_foreign_sign (hr.mono (by decide)) rfl T.F0.mg T.F0.fn.kp T.F0.bd .nil pass0 (pa_cons (pv 0) (pa_cons (pv 3) pa_nil))) pe_non (nomark _)) (pss_one (ps_raiseK K H rfl rfl hr.hd throwF (pe_xmake T.i_NoDrawing G_i_NoDrawing (hr.mono (by decide)) rfl T.m_NoDrawing T.b_NoDrawing (pa_cons (pe_S [119, 111, 114, 100, 115] (by decide +kernel)) (pa_cons (pv 2) pa_nil))))) pss_nil)))), ?_⟩
  have T0 := T
  obtain ⟨y, wt, ws, rfl, hwt, q1, q2⟩ := h
  generalize hO : wOut y 0 ws = out at q1 q2
  refine ⟨_, rfl, wt, rfl, ⟨_, SqT.of hwt⟩, ?_⟩
  refine for_enumT (K := K) (a := wt) (xs := txs ws) (fun i σ H' => ∃ av sv : Option V, σ = [some (.str (S y)), some (.ref wt), av, sv] /\ wOut y i (ws.drop i) = out /\ Same H H') ⟨none, none, rfl, hO, Same.refl H⟩ (fun i σ H' _ ⟨_, _, _, _, h⟩ => SqT.of (h _ _ hwt)) ?_ ?_
  · rintro i x σ H1 T hx ⟨av, sv, rfl, hw, s1⟩ nT
    have hi : i < ws.length := by
      have := (List.getElem?_eq_some_iff.mp hx).1
      rwa [txs_len] at this
    rw [txs_at hi] at hx
    cases hx
    rw [List.drop_eq_getElem_cons hi] at hw
    generalize ws[i] = w at hw
    unfold wOut at hw
    refine ⟨T, _, rfl, SqT.of upd_same, rfl, _, _, rfl, _, _, rfl, rfl, ?_⟩
    have sT := s1.trans (Same.upd (o := .tup [.int i, .str (S w)]) nT)
    refine ⟨_, rfl, _, rfl, y, w, rfl, fun H2 s2 => ?_⟩
    have s02 := sT.trans s2
    cases e : frn y w with
    | none =>
      rw [if_pos e] at hw
      refine ⟨rfl, _, rfl, iteN (by rfl) ?_⟩
      exact ⟨_, _, rfl, hw, s02⟩
    | some n =>
      rw [if_neg (by rw [e]; simp)] at hw
      refine ⟨rfl, _, rfl, iteY (by rfl) ?_⟩
      exact ⟨_, rfl, raise_X2 (by decide) T0.x_NoDrawing s02 fun d2 H2 hd2 s2 => q2 i hw.symm d2 _ hd2 (s02.trans s2)⟩
  · rintro σ H1 ⟨av, sv, rfl, hw, s1⟩
    rw [txs_len, List.drop_length] at hw
    exact q1 hw.symm _ s1
theorem ok_bands : FnOk P w K mg base CX0 1 f1 d1 ["yard"] (sp_bands K) := by
  refine T.F1.fn.ok sc_bands (fun vs H Q E h => len_bands h) (fun cdv A outer s H vs Q E hr h => ?_)
  refine ⟨_, (pss_one (ps_ret (pe_bmK K rfl PySem.F.plainAttrs_str PySem.F.slot_str_join PySem.F.type_str_join (mt_joinK K rfl) (pe_S [] (by decide +kernel)) (pa_cons (pe_callB (call_sortedK K rfl) rfl T.z_sorted boot_sorted (pa_cons (pe_compB ["letter"] [none] (pi_str (pv 0)) trivial (fun _ _ _ _ => (pg_name (i := 0) (by decide +kernel : List.Nodup (["letter"] : List Str)) rfl (Or.inl rfl))) (fun _ _ _ _ => (pf_one (pt_val (pe_bm0K K rfl PySem.F.plainAttrs_str PySem.F.slot_str_islower PySem.F.type_str_islower mt_islower (pv 0))))) (fun _ _ _ _ => (pv 0))) pa_nil)) pa_nil)))), ?_⟩
  obtain ⟨l, rfl, hl, hz, q⟩ := h
  have hs : (1000 : Nat) < sizeLine := by decide
  refine ⟨rfl, _, rfl, l, rfl, ?_⟩
  refine comp_fix (xs := sgs l) (fun i acc H' => Same H H' /\ acc = sgs ((l.take i).filter isLow)) (by rw [sgs_len]; omega) ⟨Same.refl H, rfl⟩ ?_ ?_
  · rintro i x acc H1 Nx hi hx hal ⟨s1, rfl⟩ nx
    obtain ⟨c, hc, rfl⟩ := sgs_get hx
    have e := filter_take (p := isLow) hc
    refine ⟨trivial, ?_⟩
    refine ⟨_, rfl, rfl, c, rfl, rfl, hl c (List.mem_of_getElem? hc), _, rfl, ?_⟩
    refine ite2 (fun z => ?_) (fun z => ?_)
    · rw [if_pos z] at e
      exact ⟨_, rfl, nx _ _ (by simpa using hal) ⟨s1, by rw [e, <- sgs_snoc]⟩⟩
    · rw [if_neg z, List.append_nil] at e
      exact nx _ _ (Nat.le_succ_of_le hal) ⟨s1, by rw [e]⟩
  · rintro acc H1 D hal ⟨s1, rfl⟩ hD
    rw [sgs_take, sgs_lists]
    have hfl : (l.filter isLow).length <= l.length := List.length_filter_le _ _
    refine ⟨D, (l.filter isLow).map fun c => [c], rfl, SqL.of upd_same, by rw [List.length_map]; omega, fun p ls hp hpm hpw => ?_⟩
    obtain ⟨l', rfl, pl⟩ := ones_of hpm
    have hl' := pl.length_eq
    refine ⟨p, l'.map fun c => [c], rfl, rfl, SqL.of upd_same, by rw [sum1]; omega, ?_⟩
    rw [flat1]
    exact q l' _ pl (ones_pw hpw) ((s1.trans (Same.upd hD)).trans (Same.upd hp))
theorem ok_strands_in : FnOk P w K mg base CX0 1 f2 d2 ["words", "band"] (sp_strands_in K) := by
  refine T.F2.fn.ok sc_strands_in (fun vs H Q E h => len_strands_in h) (fun cdv A outer s H vs Q E hr h => ?_)
  refine ⟨_, (pss_cons (ps_set (i := 2) sc_strands_in.nd rfl (Or.inl rfl) (pe_lst pa_nil))
      (pss_cons (ps_for PassesOwn.never rfl (pi_enumT K rfl rfl T.z_enumerate (pa_cons (pv 0) pa_nil)) (pg_tupK (n := 2) K rfl rfl (pgs_cons (pg_name (i := 3) sc_strands_in.nd rfl (Or.inl rfl)) (pgs_cons (pg_name (i := 4) sc_strands_in.nd rfl (Or.inl rfl)) pgs_nil))) (pss_one (ps_for PassesOwn.never rfl (pi_enumS rfl T.z_enumerate (pa_cons (pv 4) pa_nil)) (pg_tupK (n := 2) K rfl rfl (pgs_cons (pg_name (i := 5) sc_strands_in.nd rfl (Or.inl rfl)) (pgs_cons (pg_name (i := 6) sc_strands_in.nd rfl (Or.inl rfl)) pgs_nil))) (pss_one (ps_if (pt_cmpR op_eqS (pe_bm0K K rfl PySem.F.plainAttrs_str PySem.F.slot_str_lower PySem.F.type_str_lower mt_lower (pv 6)) (pv 1) (nomark _)) (pss_one (ps_expr (pe_bmK K rfl PySem.F.plainAttrs_list PySem.F.slot_list_append PySem.F.type_list_append mt_append (pv 2) (pa_cons (pe_tup (pa_cons (pv 3) (pa_cons (pv 5) pa_nil))) pa_nil)))) pss_nil)))))
      (pss_one (ps_ret (pv 2))))), ?_⟩
  obtain ⟨wt, ws, band, rfl, hwt, hf, hw, hb, q⟩ := h
  have hs : (100000 : Nat) < sizeLine := by decide
  (repeat (first | refine ⟨_, rfl, ?_⟩ | refine ⟨_, _, rfl, rfl, ?_⟩ | refine ⟨_, _, _, rfl, rfl, by first | assumption | omega, by assumption, ?_⟩ | refine ⟨rfl, ?_⟩ | refine And.intro (by first | decide | omega | assumption | exact Nat.le_of_ble_eq_true rfl | exact .inl ⟨by decide, by decide⟩ | exact .inr ⟨by decide, by decide⟩ | exact ⟨by decide, by decide⟩ | exact ⟨by omega, by omega⟩) ?_))
  intro p1 n1
  refine ⟨_, rfl, wt, rfl, ⟨_, SqT.of ((Same.upd n1) _ _ hwt)⟩, ?_⟩
  refine for_enumT (K := K) (a := wt) (xs := txs ws) (fun j σ H' => ∃ (ps : List Pr) (cv wv pv lv : Option V), σ = [some (.ref wt), some (.str (S [band])), some (.ref p1), cv, wv, pv, lv] /\ H' p1 = some (.lst (prv ps)) /\ (∀ p ∈ ps, PrOk H' p) /\ ps.map Pr.pair = strAll band ws j /\ ps.length <= 12 * j /\ Same H H')
    ⟨[], none, none, none, none, rfl, upd_same, fun _ h => absurd h List.not_mem_nil, rfl, Nat.zero_le _, Same.upd n1⟩ (fun j σ H' _ ⟨_, _, _, _, _, _, _, _, _, _, h⟩ => SqT.of (h _ _ hwt)) ?_ ?_
  · rintro j x σ H1 T hx ⟨ps, cv, wv, pv, lv, rfl, hp, hps, hpe, hpl, s1⟩ nT
    have hj : j < ws.length := by
      have := (List.getElem?_eq_some_iff.mp hx).1
      rwa [txs_len] at this
    rw [txs_at hj] at hx
    cases hx
    have hjw : ws[j]? = some ws[j] := List.getElem?_eq_getElem hj
    obtain ⟨hwl, hwz⟩ := hw _ (List.getElem_mem hj)
    generalize ws[j] = w at hjw hwl hwz ⊢
    refine ⟨T, _, rfl, SqT.of upd_same, rfl, _, _, rfl, _, _, rfl, rfl, ?_⟩
    have sT := Same.upd (o := .tup [.int j, .str (S w)]) nT
    refine ⟨_, rfl, w, rfl, ?_⟩
    refine for_enum (l := w) (fun m σ H' => ∃ (us : List Pr) (pv lv : Option V), σ = [some (.ref wt), some (.str (S [band])), some (.ref p1), some (.int j), some (.str (S w)), pv, lv] /\ H' p1 = some (.lst (prv us)) /\ (∀ p ∈ us, PrOk H' p) /\ us.map Pr.pair = strAll band ws j ++ strUp band j w m /\ us.length <= 12 * j + m /\ Same H H')
      ⟨ps, pv, lv, rfl, sT _ _ hp, fun p hp' => (hps p hp').same sT, by rw [hpe]; show _ = _ ++ []; rw [List.append_nil], by omega, s1.trans sT⟩ ?_ ?_
    · rintro m l σ H2 T2 hm ⟨us, pv2, lv2, rfl, hp2, hus, hue, hul, s2⟩ nT2
      have hmw : m < w.length := (List.getElem?_eq_some_iff.mp hm).1
      have hll := hwl l (List.mem_of_getElem? hm)
      have es := strUp_succ (band := band) (c := j) hm
      have sT2 := Same.upd (o := .tup [.int m, .str (S [l])]) nT2
      refine ⟨T2, _, rfl, SqT.of upd_same, rfl, _, _, rfl, _, _, rfl, rfl, ?_⟩
      refine ⟨_, rfl, rfl, l, rfl, rfl, hll.lt, _, rfl, [PyProof.Rows.lo1 l], [band], rfl, rfl, _, rfl, ?_⟩
      have ev : decide ([PyProof.Rows.lo1 l] = [band]) = onB band l := by rw [<- low_on hb hll]; simp
      rw [ev]
      have hp2' := sT2 _ _ hp2
      refine ite2 (fun z => ?_) (fun z => ?_)
      · rw [if_pos z] at es
        refine ⟨_, rfl, .inl ⟨rfl, _, SqL.of hp2'⟩, _, rfl, _, rfl, by show 2 <= sizeLine; decide, fun t nt => ?_⟩
        have hp3 := (Same.upd (o := .tup [.int j, .int m]) nt) _ _ hp2'
        have s3 := sT2.trans (Same.upd (o := .tup [.int j, .int m]) nt)
        refine ⟨p1, _, _, rfl, rfl, hp3, by rw [prv_len]; omega, ?_⟩
        refine ⟨us ++ [⟨t, j, m⟩], _, _, rfl, by rw [upd_same]; exact congrArg (fun x => some (HO.lst x)) (prv_snoc us ⟨t, j, m⟩), fun p hp' => ?_, by rw [List.map_append, hue, es, List.append_assoc]; rfl, by rw [List.length_append]; show us.length + 1 <= _; omega, fun a o ea => by rw [upd_ne (ne_of_none ea n1)]; exact s3 _ _ (s2 a o ea)⟩
        rcases List.mem_append.mp hp' with g | g
        · exact ((hus p g).same s3).ts (TSame.updL hp3)
        · have e2 := List.mem_singleton.mp g
          subst e2
          exact PrOk.ts (H := upd (upd H2 T2 (.tup [.int m, .str (S [l])])) t (.tup [.int j, .int m])) ⟨upd_same, by show j < 1000; omega, by show m < 1000; omega⟩ (TSame.updL hp3)
      · rw [if_neg z, List.append_nil] at es
        exact ⟨us, _, _, rfl, hp2', fun p hp' => (hus p hp').same sT2, by rw [hue, es], by omega, s2.trans sT2⟩
    · rintro σ H2 ⟨us, pv2, lv2, rfl, hp2, hus, hue, hul, s2⟩
      exact ⟨us, _, _, _, _, rfl, hp2, hus, by rw [hue, strAll_succ hjw], by omega, s2⟩
  · rintro σ H1 ⟨ps, cv, wv, pv, lv, rfl, hp, hps, hpe, hpl, s1⟩
    rw [txs_len] at hpe
    exact ⟨_, rfl, q p1 ps H1 n1 hp hps hpe s1⟩
theorem ok_look_orders : FnOk P w K mg base (CXF P w K) 3 f4 d4 ["yard", "words", "orders"] (sp_look_orders K c_NoDrawing) := by
  have G_bands := ok_bands (P := P) (w := w) (base := base) T
  have G_strands_in := ok_strands_in (P := P) (w := w) (base := base) T
  have G_i_NoDrawing := ok_i_NoDrawing (P := P) (w := w) (base := base) T
  refine T.F4.fn.okX sc_look_orders (fun vs H Q E h => len_look_orders h) (fun cdv A outer s H vs Q E hr h => ?_)
  refine ⟨_, (pss_cons (ps_set (i := 3) sc_look_orders.nd rfl (Or.inl rfl) (pe_call G_bands (hr.mono (by decide)) rfl T.F1.mg T.F1.fn.kp T.F1.bd .nil pass0 (pa_cons (pv 0) pa_nil)))
      (pss_cons (ps_if (pt_cmpR op_neI (pe_callB (call_len_seqK K rfl) rfl T.z_len PySem.boot_len (pa_cons (pv 2) pa_nil)) (pe_callB call_lenS rfl T.z_len PySem.boot_len (pa_cons (pv 3) pa_nil)) (nomark _)) (pss_one (ps_raiseK K H rfl rfl hr.hd throwF (pe_xmake T.i_NoDrawing G_i_NoDrawing (hr.mono (by decide)) rfl T.m_NoDrawing T.b_NoDrawing (pa_cons (pe_S [98, 97, 110, 100, 115] (by decide +kernel)) (pa_cons (pe_callB (call_len_seqK K rfl) rfl T.z_len PySem.boot_len (pa_cons (pv 2) pa_nil)) pa_nil))))) pss_nil)
      (pss_one (ps_for (PassesOwn.leaving) rfl (pi_enumS rfl T.z_enumerate (pa_cons (pv 3) pa_nil)) (pg_tupK (n := 2) K rfl rfl (pgs_cons (pg_name (i := 4) sc_look_orders.nd rfl (Or.inl rfl)) (pgs_cons (pg_name (i := 5) sc_look_orders.nd rfl (Or.inl rfl)) pgs_nil))) (pss_one (ps_if (pt_cmpR (op_neD K rfl hr) (pe_callB (call_sortedB K rfl) rfl T.z_sorted boot_sorted (pa_cons (pe_ix (ix_tupK K rfl) (pv 2) (pv 4) (fun _ _ => rfl)) pa_nil)) (pe_call G_strands_in (hr.mono (by decide)) rfl T.F2.mg T.F2.fn.kp T.F2.bd .nil pass0 (pa_cons (pv 1) (pa_cons (pv 5) pa_nil))) (nomark _)) (pss_one (ps_raiseK K H rfl rfl hr.hd throwF (pe_xmake T.i_NoDrawing G_i_NoDrawing (hr.mono (by decide)) rfl T.m_NoDrawing T.b_NoDrawing (pa_cons (pe_S [115, 116, 114, 97, 110, 100, 115] (by decide +kernel)) (pa_cons (pv 4) pa_nil))))) pss_nil)))))), ?_⟩
  have T0 := T
  obtain ⟨y, wt, ot, ws, os, rfl, hy, hz, hwy, hB, hwt, hot, hod, q1, q2⟩ := h
  have hs : (100000 : Nat) < sizeLine := by decide
  have hy8 : ∀ c ∈ y, c < 128 := fun c hc => (hy c hc).lt
  have hbl := bs_most y
  have hwl : ∀ w ∈ ws, (∀ c ∈ w, Lt c) /\ w.length <= 12 := fun w hw => ⟨fun c hc => hy c (hwy w hw c hc), (hB.wd w hw).2⟩
  refine ⟨_, rfl, y, rfl, hy8, by omega, fun l' H1 hl' hw' s1 => ?_⟩
  have el := bsOf_eq hl' hw'
  subst el
  have hom := hB.om
  by_cases hlen : os.length = (bsOf y).length
  · refine ⟨_, rfl, ot, _, rfl, .inr (SqT.of (s1 _ _ hot)), _, rfl, bsOf y, rfl, by omega, _, _, rfl, rfl, _, rfl, iteN (by rw [oiv_len, hlen]; simp) ?_⟩
    have eo : oOut y ws (os.map ois) = (sOut ws 0 (bsOf y) (os.map ois)).map fun k => (wStrands3, k) := by unfold oOut; rw [if_pos (by rw [List.length_map]; exact hlen)]
    rw [eo] at q1 q2
    generalize hO : sOut ws 0 (bsOf y) (os.map ois) = out at q1 q2
    refine ⟨_, rfl, bsOf y, rfl, ?_⟩
    refine for_enum (fun i σ H' => ∃ av sv : Option V, σ = [some (.str (S y)), some (.ref wt), some (.ref ot), some (.str (S (bsOf y))), av, sv] /\ sOut ws i ((bsOf y).drop i) ((os.map ois).drop i) = out /\ Same H H') ⟨none, none, rfl, hO, s1⟩ ?_ ?_
    · rintro i b σ H2 T hb ⟨av, sv, rfl, hso, s2⟩ nT
      have hi : i < (bsOf y).length := (List.getElem?_eq_some_iff.mp hb).1
      have hbs := bs_lt hy b (List.mem_of_getElem? hb)
      have hi2 : i < os.length := by omega
      have ho : os[i]? = some os[i] := List.getElem?_eq_getElem hi2
      have hom' := List.getElem_mem hi2
      rw [List.drop_eq_getElem_cons hi, List.drop_eq_getElem_cons (show i < (os.map ois).length by rw [List.length_map]; exact hi2), (List.getElem?_eq_some_iff.mp hb).2, List.getElem_map] at hso
      generalize os[i] = o at ho hom' hso
      unfold sOut at hso
      have sT := s2.trans (Same.upd (o := .tup [.int i, .str (S [b])]) nT)
      refine ⟨T, _, rfl, SqT.of upd_same, rfl, _, _, rfl, _, _, rfl, rfl, ?_⟩
      generalize upd H2 T (.tup [.int i, .str (S [b])]) = H3 at sT ⊢
      have ok := (hod o hom').ts (TSame.of sT)
      have hlz := hB.op o hom'
      refine ⟨_, rfl, _, rfl, ot, _, _, _, rfl, rfl, SqT.of (sT _ _ hot), atI_nat (oiv_at ho), ?_⟩
      refine ⟨o.o, piv o.ps, ois o, rfl, .inr (SqT.of ok.tp), prs_pi ok.pr, by rw [piv_len]; omega, fun qa idx hidx nq => ?_⟩
      have sQ := sT.trans (Same.upd (o := .lst (idx.map fun i => (piv o.ps).getD i .non)) nq)
      have hqa := upd_same (H := H3) (a := qa) (o := HO.lst (idx.map fun i => (piv o.ps).getD i .non))
      generalize upd H3 qa (.lst (idx.map fun i => (piv o.ps).getD i .non)) = H4 at sQ hqa ⊢
      refine ⟨_, rfl, _, rfl, wt, ws, b, rfl, sQ _ _ hwt, hB.few, hwl, hbs, fun q3 ps H5 nq3 hq3 hps hpe s5 => ?_⟩
      have ok5 := (hod o hom').ts (TSame.of (sQ.trans s5))
      have hil : ∀ i ∈ idx, i < o.ps.length := fun i hi => by
        have := hidx.1.mem_iff.mp hi
        rw [List.mem_range] at this
        unfold ois at this
        rwa [List.length_map] at this
      refine ⟨.list ((idxL (ois o) idx).map ipD), .list ((sts b ws).map ipD), .lst (SqL.of (s5 _ _ hqa)) (rdds_idx ok5.pr hil), .lst (SqL.of hq3) (by rw [<- sts_data, <- hpe]; exact rdds_prs hps), ⟨lay_ip _, lay_ip _⟩, by show PyData.depthAll _ + 1 <= 60; have := dep_ip (idxL (ois o) idx); omega, ?_⟩
      have ev : PyData.eqv (.list ((idxL (ois o) idx).map ipD)) (.list ((sts b ws).map ipD)) = decide ((ois o).Perm (sts b ws)) := (eqv_ips _ _).trans (idx_eq hidx (sts_rise b ws))
      rw [ev]
      have s05 := sQ.trans s5
      by_cases hp : (ois o).Perm (sts b ws)
      · rw [if_pos hp] at hso
        refine ⟨_, rfl, iteN (by rw [decide_eq_true hp]; rfl) ?_⟩
        exact ⟨_, _, rfl, hso, s05⟩
      · rw [if_neg hp] at hso
        refine ⟨_, rfl, iteY (by rw [decide_eq_false hp]; rfl) ?_⟩
        exact ⟨_, rfl, raise_X2 (by decide) T0.x_NoDrawing s05 fun d2 H2 hd2 s2 => q2 wStrands3 i (by rw [<- hso]; rfl) d2 _ hd2 (s05.trans s2)⟩
    · rintro σ H2 ⟨av, sv, rfl, hso, s2⟩
      rw [List.drop_length] at hso
      exact q1 (by rw [<- hso]; rfl) _ s2
  · refine ⟨_, rfl, ot, _, rfl, .inr (SqT.of (s1 _ _ hot)), _, rfl, bsOf y, rfl, by omega, _, _, rfl, rfl, _, rfl, iteY (by rw [oiv_len]; simp; omega) ?_⟩
    have eo : oOut y ws (os.map ois) = some (wBands3, os.length) := by unfold oOut; rw [List.length_map, if_neg hlen]
    refine ⟨_, rfl, ot, _, rfl, .inr (SqT.of (s1 _ _ hot)), ?_⟩
    rw [oiv_len]
    exact raise_X2 (by decide) T0.x_NoDrawing s1 fun d2 H2 hd2 s2 => q2 _ _ eo d2 _ hd2 (s1.trans s2)
theorem ok_look_drawing : FnOk P w K mg base (CXF P w K) 4 f5 d5 ["yard", "drawing"] (sp_look_drawing K c_NoDrawing) := by
  have G_look_words := ok_look_words (P := P) (w := w) (base := base) T
  have G_look_orders := ok_look_orders (P := P) (w := w) (base := base) T
  refine T.F5.fn.okX sc_look_drawing (fun vs H Q E h => len_look_drawing h) (fun cdv A outer s H vs Q E hr h => ?_)
  refine ⟨_, (pss_cons (ps_expr (pe_callX G_look_words (hr.mono (by decide)) rfl T.F3.mg T.F3.fn.kp T.F3.bd .nil passF (pa_cons (pv 0) (pa_cons (pe_ix (ix_tupK K rfl) (pv 1) pe_int (fun _ _ => rfl)) pa_nil))))
      (pss_cons (ps_expr (pe_callX G_look_orders (hr.mono (by decide)) rfl T.F4.mg T.F4.fn.kp T.F4.bd .nil passF (pa_cons (pv 0) (pa_cons (pe_ix (ix_tupK K rfl) (pv 1) pe_int (fun _ _ => rfl)) (pa_cons (pe_ix (ix_tupK K rfl) (pv 1) pe_int (fun _ _ => rfl)) pa_nil)))))
      (pss_one (ps_ret pe_bl)))), ?_⟩
  obtain ⟨y, dr, ws, os, rfl, ⟨hy, hz, hB, hd⟩, q1, q2⟩ := h
  obtain ⟨⟨wt, ot, d1, d2, d3⟩, dO⟩ := hd
  refine ⟨_, rfl, _, rfl, dr, _, 0, _, rfl, rfl, SqT.of d1, rfl, ?_⟩
  refine ⟨y, wt, ws, rfl, d2, fun e H1 s1 => ?_, fun k e d H1 hd s1 => q2 _ _ (dueO_w e) d H1 hd s1⟩
  refine ⟨_, rfl, _, rfl, dr, _, 0, _, rfl, rfl, SqT.of (s1 _ _ d1), rfl, _, rfl, dr, _, 1, _, rfl, rfl, SqT.of (s1 _ _ d1), rfl, ?_⟩
  refine ⟨y, wt, ot, ws, os, rfl, hy, hz, fun w hw => frn_all (wOut_none e w hw), hB, s1 _ _ d2, s1 _ _ d3, fun o ho => (dO o ho).ts (TSame.of s1), fun e2 H2 s2 => ?_, fun w k e2 d H2 hd s2 => ?_⟩
  · exact q1 (by rw [dueO_o e]; exact e2) _ (s1.trans s2)
  · exact q2 w k (by rw [dueO_o e]; exact e2) d H2 hd (s1.trans s2)
theorem ok_Ltake : FnOk P w K mg base CX0 1 f7 d7 ["_law_box_here", "_law_many"] (sp_Ltake K) := by
  refine T.F7.fn.ok sc_Ltake (fun vs H Q E h => len_Ltake h) (fun cdv A outer s H vs Q E hr h => ?_)
  refine ⟨_, (pss_cons (ps_if (pt_cmpR op_gt (pe_ix (ix_listK K rfl) (pv 0) pe_int (fun _ _ => rfl)) pe_int (nomark _)) (pss_cons (ps_set (i := 2) sc_Ltake.nd rfl (Or.inl rfl) (pe_op op_mod (pe_ix (ix_listK K rfl) (pv 0) pe_int (fun _ _ => rfl)) (pv 1)))
      (pss_cons (ps_asg (pe_op op_fdiv (pe_ix (ix_listK K rfl) (pv 0) pe_int (fun _ _ => rfl)) (pv 1)) (pg_sub (pv 0) pe_int set_list))
      (pss_one (ps_ret (pv 2))))) pss_nil)
      (pss_cons (ps_set (i := 3) sc_Ltake.nd rfl (Or.inl rfl) (pe_op op_mod (pe_op op_mul (pe_ix (ix_listK K rfl) (pv 0) pe_int (fun _ _ => rfl)) pe_int) pe_int))
      (pss_cons (ps_asg (pe_op op_add (pe_op op_mod (pe_op op_add (pe_op op_mul (pv 3) pe_int) pe_int) pe_int) pe_int) (pg_sub (pv 0) pe_int set_list))
      (pss_one (ps_ret (pe_op op_mod (pe_op op_fdiv (pe_op op_add (pe_op op_mul (pv 3) pe_int) (pe_ix (ix_listK K rfl) (pv 0) pe_int (fun _ _ => rfl))) pe_int) (pv 1))))))), ?_⟩
  obtain ⟨b, m, rfl, ⟨x, y, hb⟩, h1, h2, q⟩ := h
  have fin : ∀ (r x' y' : Int), 0 <= r -> r < m -> Q (.int r) (upd H b (.lst [.int x', .int y'])) := fun r x' y' h3 h4 => by
    have e : r = ((r.toNat : Nat) : Int) := by omega
    rw [e]
    exact q r.toNat _ (by omega) ⟨x', y', upd_same⟩ (SameB.upd b H _)
  refine ⟨_, rfl, b, _, 0, _, rfl, rfl, SqL.of hb, rfl, _, _, rfl, rfl, _, rfl, ite2 (fun e => ?_) (fun e => ?_)⟩
  · refine ⟨_, rfl, b, _, 0, _, rfl, rfl, SqL.of hb, rfl, _, rfl, _, _, rfl, rfl, (by omega : 0 < m), ?_⟩
    refine ⟨_, rfl, b, _, 0, _, rfl, rfl, SqL.of hb, rfl, _, rfl, _, _, rfl, rfl, ⟨by omega, by omega⟩, _, rfl, b, _, 0, 0, rfl, rfl, hb, rfl, _, rfl, ?_⟩
    exact fin (x % m) (x / m) y (Int.emod_nonneg _ (by omega)) (Int.emod_lt_of_pos _ (by omega))
  · refine ⟨_, rfl, b, _, 1, _, rfl, rfl, SqL.of hb, rfl, _, _, rfl, rfl, .inr ⟨by decide, by decide⟩, _, _, rfl, rfl, (by decide : (0 : Int) < 2147483647), ?_⟩
    refine ⟨_, rfl, _, _, rfl, rfl, .inr ⟨by decide, by decide⟩, _, _, rfl, rfl, _, _, rfl, rfl, (by decide : (0 : Int) < 2147483629), _, _, rfl, rfl, _, rfl, b, _, 1, 1, rfl, rfl, hb, rfl, ?_⟩
    refine ⟨_, rfl, _, _, rfl, rfl, .inr ⟨by decide, by decide⟩, _, rfl, b, _, 1, _, rfl, rfl, SqL.of upd_same, rfl, _, _, rfl, rfl, _, _, rfl, rfl, ⟨by decide, by decide⟩, _, rfl, _, _, rfl, rfl, (by omega : 0 < m), ?_⟩
    exact fin _ _ _ (Int.emod_nonneg _ (by omega)) (Int.emod_lt_of_pos _ (by omega))
theorem ok_Lsign : FnOk P w K mg base CX0 2 f16 d16 ["_law_box_here", "_law_yard_here"] (sp_Lsign K) := by
  have G_Ltake := ok_Ltake (P := P) (w := w) (base := base) T
  refine T.F16.fn.ok sc_Lsign (fun vs H Q E h => len_Lsign h) (fun cdv A outer s H vs Q E hr h => ?_)
  refine ⟨_, (pss_cons (ps_set (i := 2) sc_Lsign.nd rfl (Or.inl rfl) (pe_S [32, 33, 34, 35, 36, 38, 39, 40, 41, 42, 43, 44, 45, 46, 47, 48, 49, 50, 51, 52, 53, 54, 55, 56, 57, 58, 59, 60, 61, 62, 63, 64, 91, 92, 93, 94, 95, 96, 123, 124, 125, 126, 10] (by decide +kernel)))
      (pss_cons (ps_set (i := 3) sc_Lsign.nd rfl (Or.inl rfl) (pe_S [97, 98, 99, 100, 101, 102, 103, 104, 105, 106, 107, 108, 109, 110, 111, 112, 113, 114, 115, 116, 117, 118, 119, 120, 121, 122, 65, 66, 67, 68, 69, 70, 71, 72, 73, 74, 75, 76, 77, 78, 79, 80, 81, 82, 83, 84, 85, 86, 87, 88, 89, 90] (by decide +kernel)))
      (pss_cons (ps_if (pt_cmpR op_eqI (pe_call G_Ltake (hr.mono (by decide)) rfl T.F7.mg T.F7.fn.kp T.F7.bd .nil pass0 (pa_cons (pv 0) (pa_cons pe_int pa_nil))) pe_int (nomark _)) (pss_one (ps_ret (pe_ix ix_S (pv 2) (pe_call G_Ltake (hr.mono (by decide)) rfl T.F7.mg T.F7.fn.kp T.F7.bd .nil pass0 (pa_cons (pv 0) (pa_cons (pe_callB call_lenS rfl T.z_len PySem.boot_len (pa_cons (pv 2) pa_nil)) pa_nil))) (fun _ _ => rfl)))) pss_nil)
      (pss_one (ps_ret (pe_ix ix_S (pe_op op_addS (pv 3) (pv 1)) (pe_call G_Ltake (hr.mono (by decide)) rfl T.F7.mg T.F7.fn.kp T.F7.bd .nil pass0 (pa_cons (pv 0) (pa_cons (pe_op op_add pe_int (pe_callB call_lenS rfl T.z_len PySem.boot_len (pa_cons (pv 1) pa_nil))) pa_nil))) (fun _ _ => rfl))))))), ?_⟩
  obtain ⟨b, y, rfl, hb, hy, hz, q⟩ := h
  have hs : (100000 : Nat) < sizeLine := by decide
  refine ⟨_, rfl, b, 4, rfl, hb, by decide, by decide, fun r H1 hr hb1 s1 => ?_⟩
  refine ⟨_, _, rfl, rfl, _, rfl, ite2 (fun z => ?_) (fun z => ?_)⟩
  · have key : ∀ (l : List Nat), l.length = 43 -> (∀ c ∈ l, c < 128) -> ∀ (r2 : Nat) (H2 : Hp), (r2 : Int) < (l.length : Nat) -> BoxAt H2 b -> SameB b H1 H2 -> rIxS' (.str (S l)) (.int r2) H2 Q := fun l hl hc r2 H2 hr2 hb2 s2 => by
      have hr' : r2 < l.length := by omega
      exact ⟨l, r2, l[r2], rfl, rfl, by omega, atI_nat (List.getElem?_eq_getElem hr'), q _ H2 (hc _ (List.getElem_mem hr')) hb2 (s1.trans s2)⟩
    refine ⟨_, rfl, _, rfl, _, rfl, _, rfl, by decide, b, _, rfl, hb1, by decide, by decide, fun r2 H2 hr2 hb2 s2 => ?_⟩
    exact key _ (by decide) (by decide) r2 H2 hr2 hb2 s2
  · refine ⟨_, rfl, _, rfl, smalls ++ caps, y, rfl, rfl, by show 52 + y.length <= sizeLine; omega, ?_⟩
    have hl : (smalls ++ caps ++ y).length = 52 + y.length := by rw [List.length_append]; rfl
    have hc : ∀ c ∈ smalls ++ caps ++ y, c < 128 := fun c hc => by
      rcases List.mem_append.mp hc with g | g
      · exact (by decide : ∀ c ∈ smalls ++ caps, c < 128) c g
      · exact hy c g
    refine ⟨_, rfl, _, rfl, y, rfl, by omega, _, _, rfl, rfl, b, _, rfl, hb1, by omega, by omega, fun r2 H2 hr2 hb2 s2 => ?_⟩
    have hr' : r2 < (smalls ++ caps ++ y).length := by omega
    exact ⟨smalls ++ caps ++ y, r2, (smalls ++ caps ++ y)[r2], rfl, rfl, by omega, atI_nat (List.getElem?_eq_getElem hr'), q _ H2 (hc _ (List.getElem_mem hr')) hb2 (s1.trans s2)⟩
theorem ok_Lorderotherwise : FnOk P w K mg base CX0 2 f17 d17 ["_law_box_here", "_law_order_here"] (sp_Lorderotherwise K) := by
  have G_Ltake := ok_Ltake (P := P) (w := w) (base := base) T
  refine T.F17.fn.ok sc_Lorderotherwise (fun vs H Q E h => len_Lorderotherwise h) (fun cdv A outer s H vs Q E hr h => ?_)
  refine ⟨_, (pss_cons (ps_set (i := 2) sc_Lorderotherwise.nd rfl (Or.inl rfl) (pe_call G_Ltake (hr.mono (by decide)) rfl T.F7.mg T.F7.fn.kp T.F7.bd .nil pass0 (pa_cons (pv 0) (pa_cons pe_int pa_nil))))
      (pss_cons (ps_set (i := 3) sc_Lorderotherwise.nd rfl (Or.inl rfl) (pe_call G_Ltake (hr.mono (by decide)) rfl T.F7.mg T.F7.fn.kp T.F7.bd .nil pass0 (pa_cons (pv 0) (pa_cons (pe_op op_add (pe_callB (call_len_seqK K rfl) rfl T.z_len PySem.boot_len (pa_cons (pv 1) pa_nil)) pe_int) pa_nil))))
      (pss_cons (ps_set (i := 4) sc_Lorderotherwise.nd rfl (Or.inl rfl) (pe_ix (ix_listK K rfl) (pe_lst (pa_cons (pe_call G_Ltake (hr.mono (by decide)) rfl T.F7.mg T.F7.fn.kp T.F7.bd .nil pass0 (pa_cons (pv 0) (pa_cons pe_int pa_nil))) (pa_cons (pe_op op_sub (pe_op op_sub pe_int pe_int) (pe_call G_Ltake (hr.mono (by decide)) rfl T.F7.mg T.F7.fn.kp T.F7.bd .nil pass0 (pa_cons (pv 0) (pa_cons pe_int pa_nil)))) (pa_cons (pe_op op_pow pe_int pe_int) (pa_cons pe_int pa_nil))))) (pe_call G_Ltake (hr.mono (by decide)) rfl T.F7.mg T.F7.fn.kp T.F7.bd .nil pass0 (pa_cons (pv 0) (pa_cons pe_int pa_nil))) (fun _ _ => rfl)))
      (pss_cons (ps_if (PW.pt (pw_or (pt_cmpR op_eqI (pv 3) (pe_callB (call_len_seqK K rfl) rfl T.z_len PySem.boot_len (pa_cons (pv 1) pa_nil)) (nomark _)) (pw_or1 (pt_cmpR op_eqI (pv 2) pe_int (nomark _))))) (pss_one (ps_ret (pe_op op_catA (pe_op op_catA (pe_slice sl_tupA (pv 1) po_none (po_some (pv 3))) (pe_tup (pa_cons (pe_tup (pa_cons (pe_call G_Ltake (hr.mono (by decide)) rfl T.F7.mg T.F7.fn.kp T.F7.bd .nil pass0 (pa_cons (pv 0) (pa_cons pe_int pa_nil))) (pa_cons (pv 4) pa_nil))) pa_nil))) (pe_slice sl_tupA (pv 1) (po_some (pv 3)) po_none)))) pss_nil)
      (pss_cons (ps_if (pt_cmpR op_eqI (pv 2) pe_int (nomark _)) (pss_one (ps_ret (pe_op op_catA (pe_slice sl_tupA (pv 1) po_none (po_some (pv 3))) (pe_slice sl_tupA (pv 1) (po_some (pe_op op_add (pv 3) pe_int)) po_none)))) pss_nil)
      (pss_cons (ps_if (pt_cmpR op_eqI (pv 2) pe_int (nomark _)) (pss_one (ps_ret (pe_op op_catA (pe_op op_catA (pe_slice sl_tupA (pv 1) po_none (po_some (pv 3))) (pe_tup (pa_cons (pe_ix (ix_tupK K rfl) (pv 1) (pe_call G_Ltake (hr.mono (by decide)) rfl T.F7.mg T.F7.fn.kp T.F7.bd .nil pass0 (pa_cons (pv 0) (pa_cons (pe_callB (call_len_seqK K rfl) rfl T.z_len PySem.boot_len (pa_cons (pv 1) pa_nil)) pa_nil))) (fun _ _ => rfl)) pa_nil))) (pe_slice sl_tupA (pv 1) (po_some (pv 3)) po_none)))) pss_nil)
      (pss_cons (ps_asg (pe_ix (ix_tupK K rfl) (pv 1) (pv 3) (fun _ _ => rfl)) (pg_tupK (n := 2) K rfl rfl (pgs_cons (pg_name (i := 5) sc_Lorderotherwise.nd rfl (Or.inl rfl)) (pgs_cons (pg_name (i := 6) sc_Lorderotherwise.nd rfl (Or.inl rfl)) pgs_nil))))
      (pss_one (ps_ret (pe_op op_catA (pe_op op_catA (pe_slice sl_tupA (pv 1) po_none (po_some (pv 3))) (pe_tup (pa_cons (pe_ix (ix_listK K rfl) (pe_lst (pa_cons (pe_tup (pa_cons (pv 5) (pa_cons (pv 4) pa_nil))) (pa_cons (pe_tup (pa_cons (pv 4) (pa_cons (pv 6) pa_nil))) pa_nil))) (pe_op op_sub (pv 2) pe_int) (fun _ _ => rfl)) pa_nil))) (pe_slice sl_tupA (pv 1) (po_some (pe_op op_add (pv 3) pe_int)) po_none))))))))))), ?_⟩
  obtain ⟨b, o, rfl, hb, ho, hz, q⟩ := h
  have hs : (100000 : Nat) < sizeLine := by decide
  refine ⟨_, rfl, b, 5, rfl, hb, by decide, by decide, fun fm H1 hfm hb1 s1 => ?_⟩
  have ts1 := TSame.box hb s1
  refine ⟨_, rfl, _, rfl, o.o, _, rfl, .inr (SqT.of (ts1 _ _ ho.tp)), _, _, rfl, rfl, b, _, rfl, hb1, by rw [piv_len]; omega, by rw [piv_len]; omega, fun at_ H2 hat hb2 s2 => ?_⟩
  rw [piv_len] at hat
  (repeat (first | refine ⟨_, rfl, ?_⟩ | refine ⟨_, _, rfl, rfl, ?_⟩ | refine ⟨rfl, ?_⟩ | refine And.intro (by first | decide | omega | assumption | exact Nat.le_of_ble_eq_true rfl | exact .inl ⟨by decide, by decide⟩ | exact .inr ⟨by decide, by decide⟩ | exact ⟨by decide, by decide⟩ | exact ⟨by omega, by omega⟩) ?_))
  refine ⟨b, 13, rfl, hb2, by decide, by decide, fun r3 H3 hr3 hb3 s3 => ?_⟩
  (repeat (first | refine ⟨_, rfl, ?_⟩ | refine ⟨_, _, rfl, rfl, ?_⟩ | refine ⟨rfl, ?_⟩ | refine And.intro (by first | decide | omega | assumption | exact Nat.le_of_ble_eq_true rfl | exact .inl ⟨by decide, by decide⟩ | exact .inr ⟨by decide, by decide⟩ | exact ⟨by decide, by decide⟩ | exact ⟨by omega, by omega⟩) ?_))
  refine ⟨b, 3, rfl, hb3, by decide, by decide, fun r4 H4 hr4 hb4 s4 => ?_⟩
  refine ⟨_, _, rfl, rfl, ?_⟩
  (repeat (first | refine ⟨_, rfl, ?_⟩ | refine ⟨_, _, rfl, rfl, ?_⟩ | refine ⟨rfl, ?_⟩ | refine And.intro (by first | decide | omega | assumption | exact Nat.le_of_ble_eq_true rfl | exact .inl ⟨by decide, by decide⟩ | exact .inr ⟨by decide, by decide⟩ | exact ⟨by decide, by decide⟩ | exact ⟨by omega, by omega⟩) ?_))
  intro p1 np1
  have t1 := Same.upd (o := HO.lst [V.int (r3 : Nat), V.int (0 - 1 - (r4 : Nat)), V.int (10 ^ 20), V.int 24]) np1
  have bp1 : p1 ≠ b := hb4.ne np1
  refine ⟨_, rfl, b, 4, rfl, hb4.same t1, by decide, by decide, fun r5 H5 hr5 hb5 s5 => ?_⟩
  obtain ⟨num, hnum⟩ : ∃ z : Int, atI [V.int (r3 : Nat), V.int (0 - 1 - (r4 : Nat)), V.int (10 ^ 20), V.int 24] ((r5 : Nat) : Int) = some (V.int z) := ⟨[(r3 : Int), 0 - 1 - (r4 : Int), 10 ^ 20, 24][r5]'(by show r5 < 4; omega), atI_nat (xs := [(r3 : Int), 0 - 1 - (r4 : Int), 10 ^ 20, 24].map V.int) (by rw [List.getElem?_map, List.getElem?_eq_getElem (show r5 < [(r3 : Int), 0 - 1 - (r4 : Int), 10 ^ 20, 24].length by show r5 < 4; omega)]; rfl)⟩
  refine ⟨p1, _, _, _, rfl, rfl, SqL.of (s5 _ _ upd_same bp1), hnum, ?_⟩
  have s05 : SameB b H H5 := ((((s1.trans s2).trans s3).trans s4).after t1).trans s5
  clear s1 s2 s3 s4 s5 t1 np1 bp1 hnum hb1 hb2 hb3 hb4 ts1
  have ts5 := TSame.box hb s05
  have ho5 := ho.ts ts5
  have fin : ∀ (p : Addr) (ps' : List PrI) (H' : Hp), H' p = some (.tup (piv ps')) -> (∀ z ∈ ps', PiOk H' z) -> ps'.length <= o.ps.length + 1 -> BoxAt H' b -> SameB b H H' -> Q (.ref p) H' := fun p ps' H' h1 h2 h3 h4 h5 => q ⟨p, ps'⟩ H' ⟨h1, h2⟩ h3 h4 h5
  have c1 : ∀ a : Nat, cutV (piv o.ps) none (some (a : Int)) = piv (o.ps.take a) := fun a => by rw [cut_piv, cut_to]
  have c2 : ∀ a : Nat, cutV (piv o.ps) (some (a : Int)) none = piv (o.ps.drop a) := fun a => by rw [cut_piv, cut_from]
  have c3 : ∀ a : Nat, cutV (piv o.ps) (some ((a : Int) + 1)) none = piv (o.ps.drop (a + 1)) := fun a => by rw [show (a : Int) + 1 = ((a + 1 : Nat) : Int) by omega]; exact c2 _
  have hal : at_ <= o.ps.length := by omega
  have tk : ∀ z ∈ o.ps.take at_, z ∈ o.ps := fun z hz => List.mem_of_mem_take hz
  have dk : ∀ n, ∀ z ∈ o.ps.drop n, z ∈ o.ps := fun n z hz => List.mem_of_mem_drop hz
  have pl := piv_len
  apply cutX (H5 := H5)
  · intro key
    refine ⟨_, rfl, _, rfl, o.o, _, rfl, .inr (SqT.of ho5.tp), _, _, rfl, rfl, _, rfl, ite2 (fun z => ?_) (fun z => ?_)⟩
    · exact iteY rfl (key _ (Same.refl _))
    · refine ⟨_, rfl, _, _, rfl, rfl, _, rfl, ite2 (fun z2 => ?_) (fun z2 => ?_)⟩
      · exact key _ (Same.refl _)
      · have hlt : at_ < o.ps.length := by
          have : ¬ ((at_ : Nat) : Int) = ((piv o.ps).length : Nat) := fun g => z (decide_eq_true g)
          rw [pl] at this
          omega
        refine ⟨_, rfl, _, _, rfl, rfl, _, rfl, ite2 (fun z3 => ?_) (fun z3 => ?_)⟩
        · refine ⟨_, rfl, _, rfl, _, rfl, o.o, _, rfl, ho5.tp, fun p1 H7 x7 hp1 => ?_⟩
          rw [c1] at hp1
          replace x7 : Same H5 H7 := x7
          refine ⟨_, rfl, _, rfl, _, _, rfl, rfl, _, rfl, o.o, _, rfl, x7 _ _ ho5.tp, fun p2 H8 x8 hp2 => ?_⟩
          rw [c3] at hp2
          replace x8 : Same H7 H8 := x8
          refine ⟨p1, p2, _, _, rfl, rfl, x8 _ _ hp1, hp2, by rw [pl, pl, List.length_take, List.length_drop]; omega, fun p3 H9 x9 hp3 => ?_⟩
          replace x9 : Same H8 H9 := x9
          have x59 := (x7.trans x8).trans x9
          have ho9 := ho5.ts (TSame.of x59)
          refine fin p3 (o.ps.take at_ ++ o.ps.drop (at_ + 1)) H9 ?_ (fun z hz => ?_) (by simp; omega) (hb5.same x59) (s05.after x59)
          · rw [hp3]
            unfold piv
            rw [List.map_append]
          · rcases List.mem_append.mp hz with g | g
            · exact ho9.pr z (tk z g)
            · exact ho9.pr z (dk _ z g)
        · refine ⟨_, rfl, _, _, rfl, rfl, _, rfl, ite2 (fun z4 => ?_) (fun z4 => ?_)⟩
          · refine ⟨_, rfl, _, rfl, _, rfl, o.o, _, rfl, ho5.tp, fun p1 H7 x7 hp1 => ?_⟩
            rw [c1] at hp1
            replace x7 : Same H5 H7 := x7
            have hb7 := hb5.same x7
            have s07 := s05.after x7
            refine ⟨_, rfl, _, rfl, _, rfl, o.o, _, rfl, .inr (SqT.of (x7 _ _ ho5.tp)), b, _, rfl, hb7, by rw [pl]; omega, by rw [pl]; omega, fun r H8 hr hb8 s8 => ?_⟩
            rw [pl] at hr
            have ts8 := TSame.box hb7 s8
            have ho8 := (ho5.ts (TSame.of x7)).ts ts8
            have hrl : r < o.ps.length := by omega
            have hrg : o.ps[r]? = some o.ps[r] := List.getElem?_eq_getElem hrl
            have hrm := List.getElem_mem hrl
            generalize o.ps[r] = pz at hrg hrm
            refine ⟨o.o, _, _, _, rfl, rfl, SqT.of ho8.tp, atI_nat (piv_at hrg), by show 1 <= sizeLine; decide, fun p3 np3 => ?_⟩
            have t3 := Same.upd (o := HO.tup [V.ref pz.t]) np3
            have hp3 := upd_same (H := H8) (a := p3) (o := HO.tup [V.ref pz.t])
            refine ⟨p1, p3, _, _, rfl, rfl, t3 _ _ (ts8 _ _ hp1), hp3, by rw [pl, List.length_take]; show _ + 1 <= sizeLine; omega, fun p4 H9 x9 hp4 => ?_⟩
            replace x9 : Same _ H9 := x9
            have x89 := t3.trans x9
            have ho9 := ho8.ts (TSame.of x89)
            refine ⟨_, rfl, _, rfl, _, rfl, o.o, _, rfl, ho9.tp, fun p5 HA xA hp5 => ?_⟩
            rw [c2] at hp5
            replace xA : Same H9 HA := xA
            refine ⟨p4, p5, _, _, rfl, rfl, xA _ _ hp4, hp5, by rw [List.length_append, pl, pl, List.length_take, List.length_drop]; show _ + 1 + _ <= sizeLine; omega, fun p6 HB xB hp6 => ?_⟩
            replace xB : Same HA HB := xB
            have x8B := x89.trans (xA.trans xB)
            have hoB := ho9.ts (TSame.of (xA.trans xB))
            refine fin p6 (o.ps.take at_ ++ [pz] ++ o.ps.drop at_) HB ?_ (fun z hz => ?_) (by simp; omega) (hb8.same x8B) ((s07.trans s8).after x8B)
            · rw [hp6]
              unfold piv
              rw [List.map_append, List.map_append]
              rfl
            · rcases List.mem_append.mp hz with g | g
              · rcases List.mem_append.mp g with g | g
                · exact hoB.pr z (tk z g)
                · rw [List.mem_singleton.mp g]; exact hoB.pr _ hrm
              · exact hoB.pr z (dk _ z g)
          · have hg : o.ps[at_]? = some o.ps[at_] := List.getElem?_eq_getElem hlt
            have hgm := List.getElem_mem hlt
            generalize o.ps[at_] = pz at hg hgm
            refine ⟨_, rfl, _, rfl, o.o, _, _, _, rfl, rfl, SqT.of ho5.tp, atI_nat (piv_at hg), pz.t, _, rfl, SqT.of (ho5.pr pz hgm), rfl, _, _, rfl, _, _, rfl, rfl, ?_⟩
            refine ⟨_, rfl, _, rfl, _, rfl, o.o, _, rfl, ho5.tp, fun p1 H7 x7 hp1 => ?_⟩
            rw [c1] at hp1
            replace x7 : Same H5 H7 := x7
            refine ⟨_, rfl, _, rfl, by show 2 <= sizeLine; decide, fun pa npa => ?_⟩
            have ta := Same.upd (o := HO.tup [V.int pz.c, V.int num]) npa
            have hpa := upd_same (H := H7) (a := pa) (o := HO.tup [V.int pz.c, V.int num])
            refine ⟨_, rfl, _, rfl, by show 2 <= sizeLine; decide, fun pb npb => ?_⟩
            have tb := Same.upd (o := HO.tup [V.int num, V.int pz.i]) npb
            have hpb := upd_same (H := upd H7 pa (HO.tup [V.int pz.c, V.int num])) (a := pb) (o := HO.tup [V.int num, V.int pz.i])
            have hpa2 := tb _ _ hpa
            generalize upd (upd H7 pa (HO.tup [V.int pz.c, V.int num])) pb (HO.tup [V.int num, V.int pz.i]) = H8 at tb hpb hpa2 ⊢
            have x8 := (x7.trans ta).trans tb
            have hp18 := (ta.trans tb) _ _ hp1
            clear ta tb hpa npa npb
            refine ⟨by show 2 <= sizeLine; decide, fun pc npc => ?_⟩
            have tc := Same.upd (o := HO.lst [V.ref pa, V.ref pb]) npc
            have hpc := upd_same (H := H8) (a := pc) (o := HO.lst [V.ref pa, V.ref pb])
            have hpa3 := tc _ _ hpa2
            have hpb3 := tc _ _ hpb
            have hp19 := tc _ _ hp18
            have x9 := x8.trans tc
            generalize upd H8 pc (HO.lst [V.ref pa, V.ref pb]) = H9 at hpc hpa3 hpb3 hp19 x9 ⊢
            clear tc hpa2 hpb hp18 x8
            obtain ⟨pn, hix, hpn⟩ : ∃ pn : PrI, atI [V.ref pa, V.ref pb] ((fm : Int) - 3) = some (V.ref pn.t) /\ PiOk H9 pn := by
              have h3 : ¬ ((fm : Nat) : Int) = 1 := fun g => z3 (decide_eq_true g)
              have h4 : ¬ ((fm : Nat) : Int) = 2 := fun g => z4 (decide_eq_true g)
              have h2 : ¬ ((fm : Nat) : Int) = 0 := fun g => z2 (decide_eq_true g)
              rcases (by omega : fm = 3 \/ fm = 4) with rfl | rfl
              · exact ⟨⟨pa, pz.c, num⟩, atI_nat (j := 0) rfl, hpa3⟩
              · exact ⟨⟨pb, num, pz.i⟩, atI_nat (j := 1) rfl, hpb3⟩
            refine ⟨_, rfl, _, _, rfl, rfl, pc, _, _, _, rfl, rfl, SqL.of hpc, hix, by show 1 <= sizeLine; decide, fun p3 np3 => ?_⟩
            have t3 := Same.upd (o := HO.tup [V.ref pn.t]) np3
            have hp3 := upd_same (H := H9) (a := p3) (o := HO.tup [V.ref pn.t])
            refine ⟨p1, p3, _, _, rfl, rfl, t3 _ _ hp19, hp3, by rw [pl, List.length_take]; show _ + 1 <= sizeLine; omega, fun p4 HA xA hp4 => ?_⟩
            replace xA : Same _ HA := xA
            have x9A := t3.trans xA
            have hoA := ho5.ts (TSame.of (x9.trans x9A))
            refine ⟨_, rfl, _, rfl, _, _, rfl, rfl, _, rfl, o.o, _, rfl, hoA.tp, fun p5 HB xB hp5 => ?_⟩
            rw [c3] at hp5
            replace xB : Same HA HB := xB
            refine ⟨p4, p5, _, _, rfl, rfl, xB _ _ hp4, hp5, by rw [List.length_append, pl, pl, List.length_take, List.length_drop]; show _ + 1 + _ <= sizeLine; omega, fun p6 HC xC hp6 => ?_⟩
            replace xC : Same HB HC := xC
            have x9C := x9A.trans (xB.trans xC)
            have x5C := x9.trans x9C
            have hoC := ho5.ts (TSame.of x5C)
            refine fin p6 (o.ps.take at_ ++ [pn] ++ o.ps.drop (at_ + 1)) HC ?_ (fun z hz => ?_) (by simp; omega) (hb5.same x5C) (s05.after x5C)
            · rw [hp6]
              unfold piv
              rw [List.map_append, List.map_append]
              rfl
            · rcases List.mem_append.mp hz with g | g
              · rcases List.mem_append.mp g with g | g
                · exact hoC.pr z (tk z g)
                · rw [List.mem_singleton.mp g]; exact x9C _ _ hpn
              · exact hoC.pr z (dk _ z g)
  · intro H6 s6
    have ho6 := ho5.ts (TSame.of s6)
    refine ⟨_, rfl, _, rfl, _, rfl, o.o, _, rfl, ho6.tp, fun p1 H7 x7 hp1 => ?_⟩
    rw [c1] at hp1
    replace x7 : Same H6 H7 := x7
    have hb7 := (hb5.same s6).same x7
    have s07 := (s05.after s6).after x7
    refine ⟨_, rfl, b, 4, rfl, hb7, by decide, by decide, fun r H8 hr hb8 s8 => ?_⟩
    have ts8 := TSame.box hb7 s8
    refine ⟨_, rfl, by show 2 <= sizeLine; decide, fun p2 np2 => ?_⟩
    have t2 := Same.upd (o := HO.tup [V.int (r : Nat), V.int num]) np2
    have hp2 : upd H8 p2 (HO.tup [V.int (r : Nat), V.int num]) p2 = some (HO.tup [V.int (r : Nat), V.int num]) := upd_same
    refine ⟨by show 1 <= sizeLine; decide, fun p3 np3 => ?_⟩
    have t3 := Same.upd (o := HO.tup [V.ref p2]) np3
    have hp3 := upd_same (H := upd H8 p2 (HO.tup [V.int (r : Nat), V.int num])) (a := p3) (o := HO.tup [V.ref p2])
    refine ⟨p1, p3, _, _, rfl, rfl, t3 _ _ (t2 _ _ (ts8 _ _ hp1)), hp3, by rw [pl, List.length_take]; show _ + 1 <= sizeLine; omega, fun p4 H9 x9 hp4 => ?_⟩
    replace x9 : Same _ H9 := x9
    have x89 := (t2.trans t3).trans x9
    have ho9 := ho6.ts ((TSame.of x7).trans (ts8.trans (TSame.of x89)))
    refine ⟨_, rfl, _, rfl, _, rfl, o.o, _, rfl, ho9.tp, fun p5 HA xA hp5 => ?_⟩
    rw [c2] at hp5
    replace xA : Same H9 HA := xA
    refine ⟨p4, p5, _, _, rfl, rfl, xA _ _ hp4, hp5, by rw [List.length_append, pl, pl, List.length_take, List.length_drop]; show _ + 1 + _ <= sizeLine; omega, fun p6 HB xB hp6 => ?_⟩
    replace xB : Same HA HB := xB
    have x8B := x89.trans (xA.trans xB)
    have hoB := ho9.ts (TSame.of (xA.trans xB))
    refine fin p6 (o.ps.take at_ ++ [⟨p2, r, num⟩] ++ o.ps.drop at_) HB ?_ (fun z hz => ?_) (by simp; omega) (hb8.same x8B) ((s07.trans s8).after x8B)
    · rw [hp6]
      unfold piv
      rw [List.map_append, List.map_append]
      rfl
    · rcases List.mem_append.mp hz with g | g
      · rcases List.mem_append.mp g with g | g
        · exact hoB.pr z (tk z g)
        · rw [List.mem_singleton.mp g]
          exact (t3.trans (x9.trans (xA.trans xB))) _ _ hp2
      · exact hoB.pr z (dk _ z g)
theorem ok_Lotherwise : FnOk P w K mg base CX0 3 f18 d18 ["_law_box_here", "_law_yard_here", "_law_drawing_here"] (sp_Lotherwise K) := by
  have G_Ltake := ok_Ltake (P := P) (w := w) (base := base) T
  have G_Lsign := ok_Lsign (P := P) (w := w) (base := base) T
  have G_Lorderotherwise := ok_Lorderotherwise (P := P) (w := w) (base := base) T
  refine T.F18.fn.ok sc_Lotherwise (fun vs H Q E h => len_Lotherwise h) (fun cdv A outer s H vs Q E hr h => ?_)
  refine ⟨_, (pss_cons (ps_asg (pv 2) (pg_tupK (n := 2) K rfl rfl (pgs_cons (pg_name (i := 3) sc_Lotherwise.nd rfl (Or.inl rfl)) (pgs_cons (pg_name (i := 4) sc_Lotherwise.nd rfl (Or.inl rfl)) pgs_nil))))
      (pss_cons (ps_set (i := 5) sc_Lotherwise.nd rfl (Or.inl rfl) (pe_call G_Ltake (hr.mono (by decide)) rfl T.F7.mg T.F7.fn.kp T.F7.bd .nil pass0 (pa_cons (pv 0) (pa_cons pe_int pa_nil))))
      (pss_cons (ps_set (i := 6) sc_Lotherwise.nd rfl (Or.inl rfl) (pe_call G_Ltake (hr.mono (by decide)) rfl T.F7.mg T.F7.fn.kp T.F7.bd .nil pass0 (pa_cons (pv 0) (pa_cons (pe_op op_add (pe_callB (call_len_seqK K rfl) rfl T.z_len PySem.boot_len (pa_cons (pv 4) pa_nil)) pe_int) pa_nil))))
      (pss_cons (ps_if (PW.pt (pw_and (pt_cmpR op_eqI (pv 5) pe_int (nomark _)) (pw_and1 (pt_cmpR op_gt (pe_callB (call_len_seqK K rfl) rfl T.z_len PySem.boot_len (pa_cons (pv 3) pa_nil)) pe_int (nomark _))))) (pss_cons (ps_set (i := 7) sc_Lotherwise.nd rfl (Or.inl rfl) (pe_call G_Ltake (hr.mono (by decide)) rfl T.F7.mg T.F7.fn.kp T.F7.bd .nil pass0 (pa_cons (pv 0) (pa_cons (pe_callB (call_len_seqK K rfl) rfl T.z_len PySem.boot_len (pa_cons (pv 3) pa_nil)) pa_nil))))
      (pss_cons (ps_set (i := 8) sc_Lotherwise.nd rfl (Or.inl rfl) (pe_call G_Ltake (hr.mono (by decide)) rfl T.F7.mg T.F7.fn.kp T.F7.bd .nil pass0 (pa_cons (pv 0) (pa_cons (pe_op op_add (pe_callB call_lenS rfl T.z_len PySem.boot_len (pa_cons (pe_ix (ix_tupK K rfl) (pv 3) (pv 7) (fun _ _ => rfl)) pa_nil)) pe_int) pa_nil))))
      (pss_cons (ps_set (i := 9) sc_Lotherwise.nd rfl (Or.inl rfl) (pe_op op_addS (pe_op op_addS (pe_slice sl_S (pe_ix (ix_tupK K rfl) (pv 3) (pv 7) (fun _ _ => rfl)) po_none (po_some (pv 8))) (pe_call G_Lsign (hr.mono (by decide)) rfl T.F16.mg T.F16.fn.kp T.F16.bd .nil pass0 (pa_cons (pv 0) (pa_cons (pv 1) pa_nil)))) (pe_slice sl_S (pe_ix (ix_tupK K rfl) (pv 3) (pv 7) (fun _ _ => rfl)) (po_some (pe_op op_add (pv 8) (pe_call G_Ltake (hr.mono (by decide)) rfl T.F7.mg T.F7.fn.kp T.F7.bd .nil pass0 (pa_cons (pv 0) (pa_cons pe_int pa_nil))))) po_none)))
      (pss_one (ps_ret (pe_tup (pa_cons (pe_op op_catA (pe_op op_catA (pe_slice sl_tupA (pv 3) po_none (po_some (pv 7))) (pe_tup (pa_cons (pe_slice sl_S (pv 9) po_none (po_some pe_int)) pa_nil))) (pe_slice sl_tupA (pv 3) (po_some (pe_op op_add (pv 7) pe_int)) po_none)) (pa_cons (pv 4) pa_nil)))))))) pss_nil)
      (pss_cons (ps_if (pt_cmpR op_eqI (pv 5) pe_int (nomark _)) (pss_one (ps_ret (pe_tup (pa_cons (pv 3) (pa_cons (pe_op op_catA (pe_slice sl_tupA (pv 4) po_none (po_some (pv 6))) (pe_slice sl_tupA (pv 4) (po_some (pe_op op_add (pv 6) pe_int)) po_none)) pa_nil))))) pss_nil)
      (pss_cons (ps_if (pt_cmpR op_eqI (pv 5) pe_int (nomark _)) (pss_cons (ps_set (i := 10) sc_Lotherwise.nd rfl (Or.inl rfl) (pe_ix (ix_tupK K rfl) (pe_op op_catA (pv 4) (pe_tup (pa_cons (pe_tup pa_nil) pa_nil))) (pe_call G_Ltake (hr.mono (by decide)) rfl T.F7.mg T.F7.fn.kp T.F7.bd .nil pass0 (pa_cons (pv 0) (pa_cons (pe_op op_add (pe_callB (call_len_seqK K rfl) rfl T.z_len PySem.boot_len (pa_cons (pv 4) pa_nil)) pe_int) pa_nil))) (fun _ _ => rfl)))
      (pss_one (ps_ret (pe_tup (pa_cons (pv 3) (pa_cons (pe_op op_catA (pe_op op_catA (pe_slice sl_tupA (pv 4) po_none (po_some (pv 6))) (pe_tup (pa_cons (pe_slice sl_tupA (pv 10) po_none (po_some pe_int)) pa_nil))) (pe_slice sl_tupA (pv 4) (po_some (pv 6)) po_none)) pa_nil)))))) pss_nil)
      (pss_cons (ps_if (pt_cmpR op_eqI (pv 6) (pe_callB (call_len_seqK K rfl) rfl T.z_len PySem.boot_len (pa_cons (pv 4) pa_nil)) (nomark _)) (pss_one (ps_ret (pe_tup (pa_cons (pv 3) (pa_cons (pe_revT K rfl (pv 4) (po_some (pe_un un_neg pe_int))) pa_nil))))) pss_nil)
      (pss_one (ps_ret (pe_tup (pa_cons (pv 3) (pa_cons (pe_op op_catA (pe_op op_catA (pe_slice sl_tupA (pv 4) po_none (po_some (pv 6))) (pe_tup (pa_cons (pe_call G_Lorderotherwise (hr.mono (by decide)) rfl T.F17.mg T.F17.fn.kp T.F17.bd .nil pass0 (pa_cons (pv 0) (pa_cons (pe_ix (ix_tupK K rfl) (pv 4) (pv 6) (fun _ _ => rfl)) pa_nil))) pa_nil))) (pe_slice sl_tupA (pv 4) (po_some (pe_op op_add (pv 6) pe_int)) po_none)) pa_nil)))))))))))), ?_⟩
  obtain ⟨b, y, dr, ws, os, j, rfl, hb, hy, hz, hj, hB, hd, q⟩ := h
  have hs : (100000 : Nat) < sizeLine := by decide
  obtain ⟨⟨wt, ot, d1, d2, d3⟩, dO⟩ := hd
  have hwf := hB.few
  have hom := hB.om
  have ol := oiv_len
  refine ⟨_, rfl, dr, _, rfl, SqT.of d1, rfl, _, _, rfl, _, _, rfl, rfl, ?_⟩
  refine ⟨_, rfl, b, 6, rfl, hb, by decide, by decide, fun fm H1 hfm hb1 s1 => ?_⟩
  have ts1 := TSame.box hb s1
  refine ⟨_, rfl, _, rfl, ot, _, rfl, .inr (SqT.of (ts1 _ _ d3)), _, _, rfl, rfl, b, _, rfl, hb1, by rw [ol]; omega, by rw [ol]; omega, fun at_ H2 hat hb2 s2 => ?_⟩
  rw [ol] at hat
  have s02 := s1.trans s2
  have ts2 := TSame.box hb s02
  have d22 := ts2 _ _ d2
  have d32 := ts2 _ _ d3
  have dO2 : ∀ o ∈ os, OiOk H2 o := fun o ho => (dO o ho).ts ts2
  clear s1 s2 hb1 ts1
  have fin : ∀ (dr' wt' ot' : Addr) (ws' : List (List Nat)) (os' : List OI) (H' : Hp), H' dr' = some (.tup [.ref wt', .ref ot']) -> H' wt' = some (.tup (txs ws')) -> H' ot' = some (.tup (oiv os')) -> (∀ o ∈ os', OiOk H' o) -> Bd (j + 1) ws' os' -> BoxAt H' b -> SameB b H H' -> Q (.ref dr') H' := fun dr' wt' ot' ws' os' H' h1 h2 h3 h4 h5 h6 h7 => q dr' ws' os' H' ⟨⟨wt', ot', h1, h2, h3⟩, h4⟩ h5 h6 h7
  have c1 : ∀ a : Nat, cutV (oiv os) none (some (a : Int)) = oiv (os.take a) := fun a => by rw [cut_oiv, cut_to]
  have c2 : ∀ a : Nat, cutV (oiv os) (some (a : Int)) none = oiv (os.drop a) := fun a => by rw [cut_oiv, cut_from]
  have c3 : ∀ a : Nat, cutV (oiv os) (some ((a : Int) + 1)) none = oiv (os.drop (a + 1)) := fun a => by rw [show (a : Int) + 1 = ((a + 1 : Nat) : Int) by omega]; exact c2 _
  have hal : at_ <= os.length := by omega
  have tk : ∀ z ∈ os.take at_, z ∈ os := fun z hz => List.mem_of_mem_take hz
  have dk : ∀ n, ∀ z ∈ os.drop n, z ∈ os := fun n z hz => List.mem_of_mem_drop hz
  apply cutX (H5 := H2)
  · intro key
    refine ⟨_, rfl, _, _, rfl, rfl, _, rfl, ite2 (fun z => ?_) (fun z => ?_)⟩
    · refine ⟨_, rfl, wt, _, rfl, .inr (SqT.of d22), _, _, rfl, rfl, _, rfl, ite2 (fun z2 => ?_) (fun z2 => ?_)⟩
      · have hw1 : 0 < ws.length := by
          have : (0 : Int) < ((txs ws).length : Nat) := of_decide_eq_true z2
          rw [txs_len] at this
          omega
        refine ⟨_, rfl, _, rfl, wt, _, rfl, .inr (SqT.of d22), b, _, rfl, hb2, by rw [txs_len]; omega, by rw [txs_len]; omega, fun c H3 hc hb3 s3 => ?_⟩
        rw [txs_len] at hc
        have hcl : c < ws.length := by omega
        have hcg : (txs ws)[c]? = some (V.str (S ws[c])) := txs_at hcl
        obtain ⟨hw8, hw12⟩ := hB.wd _ (List.getElem_mem hcl)
        generalize ws[c] = w at hcg hw8 hw12
        have ts3 := TSame.box hb2 s3
        refine ⟨_, rfl, _, rfl, _, rfl, wt, _, _, _, rfl, rfl, SqT.of (ts3 _ _ d22), atI_nat hcg, w, rfl, by omega, _, _, rfl, rfl, b, _, rfl, hb3, by omega, by omega, fun i H4 hi hb4 s4 => ?_⟩
        have ts4 := ts3.trans (TSame.box hb3 s4)
        refine ⟨_, rfl, _, rfl, wt, _, _, _, rfl, rfl, SqT.of (ts4 _ _ d22), atI_nat hcg, _, rfl, _, rfl, w, rfl, by omega, ?_⟩
        refine ⟨_, rfl, _, rfl, b, y, rfl, hb4, hy, hz, fun x H5 hx hb5 s5 => ?_⟩
        have ts5 := ts4.trans (TSame.box hb4 s5)
        have hl1 : (cut w none (some ((i : Nat) : Int))).length <= 12 := Nat.le_trans (cut_len _ _ _) hw12
        refine ⟨_, _, rfl, rfl, by show _ + 1 <= sizeLine; omega, ?_⟩
        refine ⟨_, rfl, _, rfl, wt, _, _, _, rfl, rfl, SqT.of (ts5 _ _ d22), atI_nat hcg, _, rfl, _, rfl, b, 2, rfl, hb5, by decide, by decide, fun r H6 hr hb6 s6 => ?_⟩
        have ts6 := ts5.trans (TSame.box hb5 s6)
        refine ⟨_, _, rfl, rfl, _, rfl, w, rfl, by omega, ?_⟩
        have hl2 : (cut w (some ((i : Nat) + (r : Nat) : Int)) none).length <= 12 := Nat.le_trans (cut_len _ _ _) hw12
        refine ⟨_, _, rfl, rfl, by rw [List.length_append]; show _ + 1 + _ <= sizeLine; omega, ?_⟩
        have hcm : ∀ (lo hi : Option Int), ∀ d ∈ cut w lo hi, d < 128 := fun lo hi d hd => hw8 d (List.mem_of_mem_drop (List.mem_of_mem_take hd))
        have hwd8 : ∀ d ∈ cut w none (some ((i : Nat) : Int)) ++ [x] ++ cut w (some ((i : Nat) + (r : Nat) : Int)) none, d < 128 := fun d hd => by
          rcases List.mem_append.mp hd with g | g
          · rcases List.mem_append.mp g with g | g
            · exact hcm _ _ d g
            · rw [List.mem_singleton.mp g]; exact hx
          · exact hcm _ _ d g
        have hwdl : (cut w none (some ((i : Nat) : Int)) ++ [x] ++ cut w (some ((i : Nat) + (r : Nat) : Int)) none).length <= 25 := by rw [List.length_append, List.length_append]; show _ + 1 + _ <= 25; omega
        generalize cut w none (some ((i : Nat) : Int)) ++ [x] ++ cut w (some ((i : Nat) + (r : Nat) : Int)) none = wd at hwd8 hwdl ⊢
        have s06 := (((s02.trans s3).trans s4).trans s5).trans s6
        have d26 := ts6 _ _ d22
        have d36 := ts6 _ _ d32
        have dO6 : ∀ o ∈ os, OiOk H6 o := fun o ho => (dO2 o ho).ts ts6
        clear s3 s4 s5 s6 ts3 ts4 ts5 ts6 hb3 hb4 hb5 hcg
        refine ⟨_, rfl, _, rfl, _, rfl, wt, _, rfl, d26, fun p1 H7 x7 hp1 => ?_⟩
        rw [show cutV (txs ws) none (some ((c : Nat) : Int)) = txs (ws.take c) by rw [cut_txs3, cut_to]] at hp1
        replace x7 : Same H6 H7 := x7
        refine ⟨_, rfl, _, rfl, wd, rfl, by omega, by show 1 <= sizeLine; decide, fun p2 np2 => ?_⟩
        have t2 := Same.upd (o := HO.tup [V.str (S (cut wd none (some 12)))]) np2
        have hp2 := upd_same (H := H7) (a := p2) (o := HO.tup [V.str (S (cut wd none (some 12)))])
        refine ⟨p1, p2, _, _, rfl, rfl, t2 _ _ hp1, hp2, by rw [txs_len, List.length_take]; show _ + 1 <= sizeLine; omega, fun p3 H8 x8 hp3 => ?_⟩
        replace x8 : Same _ H8 := x8
        have x68 := (x7.trans t2).trans x8
        refine ⟨_, rfl, _, rfl, _, _, rfl, rfl, _, rfl, wt, _, rfl, x68 _ _ d26, fun p4 H9 x9 hp4 => ?_⟩
        rw [show cutV (txs ws) (some ((c : Nat) + 1 : Int)) none = txs (ws.drop (c + 1)) by rw [cut_txs3, show ((c : Nat) + 1 : Int) = ((c + 1 : Nat) : Int) by omega, cut_from]] at hp4
        replace x9 : Same H8 H9 := x9
        refine ⟨p3, p4, _, _, rfl, rfl, x9 _ _ hp3, hp4, by rw [List.length_append, txs_len, txs_len, List.length_take, List.length_drop]; show _ + 1 + _ <= sizeLine; omega, fun p5 HA xA hp5 => ?_⟩
        replace xA : Same H9 HA := xA
        refine ⟨_, rfl, by show 2 <= sizeLine; decide, fun p6 np6 => ?_⟩
        have t6 := Same.upd (o := HO.tup [V.ref p5, V.ref ot]) np6
        have x6E := ((x68.trans x9).trans xA).trans t6
        have e12 : cut wd none (some 12) = wd.take 12 := cut_to wd 12
        refine fin p6 p5 ot (ws.take c ++ [cut wd none (some 12)] ++ ws.drop (c + 1)) os _ upd_same ?_ (x6E _ _ d36) (fun o ho => (dO6 o ho).ts (TSame.of x6E)) ⟨by simp; omega, fun v hv => ?_, by omega, fun o ho => by have := hB.op o ho; omega⟩ (hb6.same x6E) (s06.after x6E)
        · rw [t6 _ _ hp5]
          unfold txs
          rw [List.map_append, List.map_append]
          rfl
        · rcases List.mem_append.mp hv with g | g
          · rcases List.mem_append.mp g with g | g
            · exact hB.wd v (List.mem_of_mem_take g)
            · rw [List.mem_singleton.mp g, e12]
              exact ⟨fun d hd => hwd8 d (List.mem_of_mem_take hd), by rw [List.length_take]; omega⟩
          · exact hB.wd v (List.mem_of_mem_drop g)
      · exact key _ (Same.refl _)
    · exact iteF (key _ (Same.refl _))
  · intro H3 s3
    have hb3 := hb2.same s3
    have s03 := s02.after s3
    have d23 := s3 _ _ d22
    have d33 := s3 _ _ d32
    have dO3 : ∀ o ∈ os, OiOk H3 o := fun o ho => (dO2 o ho).ts (TSame.of s3)
    clear s3 s02 d22 d32 dO2 hb2 ts2
    refine ⟨_, rfl, _, _, rfl, rfl, _, rfl, ite2 (fun z => ?_) (fun z => ?_)⟩
    · refine ⟨_, rfl, _, rfl, _, rfl, _, rfl, ot, _, rfl, d33, fun p1 H7 x7 hp1 => ?_⟩
      rw [c1] at hp1
      replace x7 : Same H3 H7 := x7
      refine ⟨_, rfl, _, rfl, _, _, rfl, rfl, _, rfl, ot, _, rfl, x7 _ _ d33, fun p2 H8 x8 hp2 => ?_⟩
      rw [c3] at hp2
      replace x8 : Same H7 H8 := x8
      refine ⟨p1, p2, _, _, rfl, rfl, x8 _ _ hp1, hp2, by rw [ol, ol, List.length_take, List.length_drop]; omega, fun p3 H9 x9 hp3 => ?_⟩
      replace x9 : Same H8 H9 := x9
      refine ⟨by show 2 <= sizeLine; decide, fun p4 np4 => ?_⟩
      have t4 := Same.upd (o := HO.tup [V.ref wt, V.ref p3]) np4
      have x3 := ((x7.trans x8).trans x9).trans t4
      refine fin p4 wt p3 ws (os.take at_ ++ os.drop (at_ + 1)) _ upd_same (x3 _ _ d23) (by rw [show oiv (os.take at_ ++ os.drop (at_ + 1)) = oiv (os.take at_) ++ oiv (os.drop (at_ + 1)) by unfold oiv; rw [List.map_append]]; exact t4 _ _ hp3) (fun o ho => ?_) ⟨hB.few, hB.wd, by simp; omega, fun o ho => ?_⟩ (hb3.same x3) (s03.after x3)
      · refine (dO3 o ?_).ts (TSame.of x3)
        rcases List.mem_append.mp ho with g | g
        · exact tk o g
        · exact dk _ o g
      · have : o ∈ os := by
          rcases List.mem_append.mp ho with g | g
          · exact tk o g
          · exact dk _ o g
        have := hB.op o this
        omega
    · refine ⟨_, rfl, _, _, rfl, rfl, _, rfl, ite2 (fun z2 => ?_) (fun z2 => ?_)⟩
      · refine ⟨_, rfl, by show 0 <= sizeLine; omega, fun pe npe => ?_⟩
        have te := Same.upd (o := HO.tup []) npe
        have hpe := upd_same (H := H3) (a := pe) (o := HO.tup [])
        refine ⟨by show 1 <= sizeLine; decide, fun pf npf => ?_⟩
        have tf := Same.upd (o := HO.tup [V.ref pe]) npf
        have hpf := upd_same (H := upd H3 pe (HO.tup [])) (a := pf) (o := HO.tup [V.ref pe])
        have xf := te.trans tf
        have hpe2 := tf _ _ hpe
        refine ⟨ot, pf, _, _, rfl, rfl, xf _ _ d33, hpf, by rw [ol]; show _ + 1 <= sizeLine; omega, fun pg H4 x4 hpg => ?_⟩
        replace x4 : Same _ H4 := x4
        have x34 := xf.trans x4
        have hpe4 := x4 _ _ hpe2
        have hb4 := hb3.same x34
        have s04 := s03.after x34
        refine ⟨_, rfl, _, rfl, ot, _, rfl, .inr (SqT.of (x34 _ _ d33)), _, _, rfl, rfl, b, _, rfl, hb4, by rw [ol]; omega, by rw [ol]; omega, fun r H5 hr hb5 s5 => ?_⟩
        rw [ol] at hr
        have ts5 := TSame.box hb4 s5
        have ts35 := (TSame.of x34).trans ts5
        obtain ⟨om, hmg, hmo, hml⟩ : ∃ o : OI, atI (oiv os ++ [V.ref pe]) ((r : Nat) : Int) = some (V.ref o.o) /\ OiOk H5 o /\ o.ps.length <= 48 + j := by
          by_cases hrl : r < os.length
          · refine ⟨os[r], atI_nat ?_, (dO3 _ (List.getElem_mem hrl)).ts ts35, hB.op _ (List.getElem_mem hrl)⟩
            rw [List.getElem?_append_left (by rw [ol]; exact hrl)]
            exact oiv_at (List.getElem?_eq_getElem hrl)
          · refine ⟨⟨pe, []⟩, atI_nat ?_, ⟨ts5 _ _ hpe4, fun _ h => absurd h List.not_mem_nil⟩, Nat.zero_le _⟩
            rw [List.getElem?_append_right (by rw [ol]; omega), ol, show r - os.length = 0 by omega]
            rfl
        refine ⟨pg, _, _, _, rfl, rfl, SqT.of (ts5 _ _ hpg), hmg, ?_⟩
        have d25 := ts35 _ _ d23
        have d35 := ts35 _ _ d33
        have dO5 : ∀ o ∈ os, OiOk H5 o := fun o ho => (dO3 o ho).ts ts35
        have s05 := s04.trans s5
        clear s5 ts5 ts35 hpg hpe4 x34 x4 s04 hb4 hmg hpe2 xf tf te hpe hpf npe npf
        refine ⟨_, rfl, _, rfl, _, rfl, _, rfl, ot, _, rfl, d35, fun p1 H7 x7 hp1 => ?_⟩
        rw [c1] at hp1
        replace x7 : Same H5 H7 := x7
        refine ⟨_, rfl, _, rfl, om.o, _, rfl, x7 _ _ hmo.tp, fun p2 H8 x8 hp2 => ?_⟩
        rw [show cutV (piv om.ps) none (some 2) = piv (om.ps.take 2) by rw [cut_piv]; exact congrArg piv (cut_to om.ps 2)] at hp2
        replace x8 : Same H7 H8 := x8
        refine ⟨by show 1 <= sizeLine; decide, fun p3 np3 => ?_⟩
        have t3 := Same.upd (o := HO.tup [V.ref p2]) np3
        have hp3 := upd_same (H := H8) (a := p3) (o := HO.tup [V.ref p2])
        refine ⟨p1, p3, _, _, rfl, rfl, t3 _ _ (x8 _ _ hp1), hp3, by rw [ol, List.length_take]; show _ + 1 <= sizeLine; omega, fun p4 H9 x9 hp4 => ?_⟩
        replace x9 : Same _ H9 := x9
        have x59 := ((x7.trans x8).trans t3).trans x9
        refine ⟨_, rfl, _, rfl, _, rfl, ot, _, rfl, x59 _ _ d35, fun p5 HA xA hp5 => ?_⟩
        rw [c2] at hp5
        replace xA : Same H9 HA := xA
        refine ⟨p4, p5, _, _, rfl, rfl, xA _ _ hp4, hp5, by rw [List.length_append, ol, ol, List.length_take, List.length_drop]; show _ + 1 + _ <= sizeLine; omega, fun p6 HB xB hp6 => ?_⟩
        replace xB : Same HA HB := xB
        refine ⟨by show 2 <= sizeLine; decide, fun p7 np7 => ?_⟩
        have t7 := Same.upd (o := HO.tup [V.ref wt, V.ref p6]) np7
        have x8E := (((t3.trans x9).trans xA).trans xB).trans t7
        have x5E := (x7.trans x8).trans x8E
        refine fin p7 wt p6 ws (os.take at_ ++ [⟨p2, om.ps.take 2⟩] ++ os.drop at_) _ upd_same (x5E _ _ d25) ?_ (fun o ho => ?_) ⟨hB.few, hB.wd, by simp; omega, fun o ho => ?_⟩ (hb5.same x5E) (s05.after x5E)
        · rw [t7 _ _ hp6]
          unfold oiv
          rw [List.map_append, List.map_append]
          rfl
        · rcases List.mem_append.mp ho with g | g
          · rcases List.mem_append.mp g with g | g
            · exact (dO5 o (tk o g)).ts (TSame.of x5E)
            · rw [List.mem_singleton.mp g]
              exact ⟨x8E _ _ hp2, fun p hp => x5E _ _ (hmo.pr p (List.mem_of_mem_take hp))⟩
          · exact (dO5 o (dk _ o g)).ts (TSame.of x5E)
        · rcases List.mem_append.mp ho with g | g
          · rcases List.mem_append.mp g with g | g
            · have := hB.op o (tk o g); omega
            · rw [List.mem_singleton.mp g]
              show (om.ps.take 2).length <= _
              rw [List.length_take]; omega
          · have := hB.op o (dk _ o g); omega
      · refine ⟨_, rfl, _, rfl, ot, _, rfl, .inr (SqT.of d33), _, _, rfl, rfl, _, rfl, ite2 (fun z3 => ?_) (fun z3 => ?_)⟩
        · refine ⟨_, rfl, _, rfl, ?_⟩
          refine ⟨_, rfl, _, rfl, rfl, ot, _, rfl, SqT.of d33, fun p1 np1 => ?_⟩
          have t1 := Same.upd (o := HO.tup (oiv os).reverse) np1
          have hp1 := upd_same (H := H3) (a := p1) (o := HO.tup (oiv os).reverse)
          refine ⟨by show 2 <= sizeLine; decide, fun p4 np4 => ?_⟩
          have t4 := Same.upd (o := HO.tup [V.ref wt, V.ref p1]) np4
          have x3 := t1.trans t4
          refine fin p4 wt p1 ws os.reverse _ upd_same (x3 _ _ d23) (by rw [show oiv os.reverse = (oiv os).reverse by unfold oiv; rw [List.map_reverse]]; exact t4 _ _ hp1) (fun o ho => (dO3 o (List.mem_reverse.mp ho)).ts (TSame.of x3)) ⟨hB.few, hB.wd, by rw [List.length_reverse]; omega, fun o ho => ?_⟩ (hb3.same x3) (s03.after x3)
          have := hB.op o (List.mem_reverse.mp ho)
          omega
        · have hlt : at_ < os.length := by
            have : ¬ ((at_ : Nat) : Int) = ((oiv os).length : Nat) := fun g => z3 (decide_eq_true g)
            rw [ol] at this
            omega
          have hg : os[at_]? = some os[at_] := List.getElem?_eq_getElem hlt
          have hgm := List.getElem_mem hlt
          generalize os[at_] = oz at hg hgm
          refine ⟨_, rfl, _, rfl, _, rfl, _, rfl, ot, _, rfl, d33, fun p1 H7 x7 hp1 => ?_⟩
          rw [c1] at hp1
          replace x7 : Same H3 H7 := x7
          have hb7 := hb3.same x7
          have hoz := hB.op oz hgm
          refine ⟨_, rfl, _, rfl, _, rfl, ot, _, _, _, rfl, rfl, SqT.of (x7 _ _ d33), atI_nat (oiv_at hg), b, oz, rfl, hb7, (dO3 oz hgm).ts (TSame.of x7), by omega, fun on H8 hon hol hb8 s8 => ?_⟩
          have ts8 := TSame.box hb7 s8
          have ts38 := (TSame.of x7).trans ts8
          refine ⟨by show 1 <= sizeLine; decide, fun p3 np3 => ?_⟩
          have t3 := Same.upd (o := HO.tup [V.ref on.o]) np3
          have hp3 := upd_same (H := H8) (a := p3) (o := HO.tup [V.ref on.o])
          refine ⟨p1, p3, _, _, rfl, rfl, t3 _ _ (ts8 _ _ hp1), hp3, by rw [ol, List.length_take]; show _ + 1 <= sizeLine; omega, fun p4 H9 x9 hp4 => ?_⟩
          replace x9 : Same _ H9 := x9
          have x89 := t3.trans x9
          refine ⟨_, rfl, _, rfl, _, _, rfl, rfl, _, rfl, ot, _, rfl, x89 _ _ (ts38 _ _ d33), fun p5 HA xA hp5 => ?_⟩
          rw [c3] at hp5
          replace xA : Same H9 HA := xA
          refine ⟨p4, p5, _, _, rfl, rfl, xA _ _ hp4, hp5, by rw [List.length_append, ol, ol, List.length_take, List.length_drop]; show _ + 1 + _ <= sizeLine; omega, fun p6 HB xB hp6 => ?_⟩
          replace xB : Same HA HB := xB
          refine ⟨by show 2 <= sizeLine; decide, fun p7 np7 => ?_⟩
          have t7 := Same.upd (o := HO.tup [V.ref wt, V.ref p6]) np7
          have x8E := ((x89.trans xA).trans xB).trans t7
          have ts3E := ts38.trans (TSame.of x8E)
          refine fin p7 wt p6 ws (os.take at_ ++ [on] ++ os.drop (at_ + 1)) _ upd_same (ts3E _ _ d23) ?_ (fun o ho => ?_) ⟨hB.few, hB.wd, by simp; omega, fun o ho => ?_⟩ (hb8.same x8E) (((s03.after x7).trans s8).after x8E)
          · rw [t7 _ _ hp6]
            unfold oiv
            rw [List.map_append, List.map_append]
            rfl
          · rcases List.mem_append.mp ho with g | g
            · rcases List.mem_append.mp g with g | g
              · exact (dO3 o (tk o g)).ts ts3E
              · rw [List.mem_singleton.mp g]; exact hon.ts (TSame.of x8E)
            · exact (dO3 o (dk _ o g)).ts ts3E
          · rcases List.mem_append.mp ho with g | g
            · rcases List.mem_append.mp g with g | g
              · have := hB.op o (tk o g); omega
              · rw [List.mem_singleton.mp g]; omega
            · have := hB.op o (dk _ o g); omega
theorem ok_Ltold : FnOk P w K mg base CX0 5 f20 d20 ["_law_yard_here", "_law_drawing_here"] (sp_Ltold K) := by
  have G_look_drawing := ok_look_drawing (P := P) (w := w) (base := base) T
  refine T.F20.fn.ok sc_Ltold (fun vs H Q E h => len_Ltold h) (fun cdv A outer s H vs Q E hr h => ?_)
  refine ⟨_, (pss_cons (ps_set (i := 2) sc_Ltold.nd rfl (Or.inl rfl) pe_non)
      (pss_cons (ps_set (i := 3) sc_Ltold.nd rfl (Or.inl rfl) pe_non)
      (pss_cons (ps_try (n := 4) T.x_MeetError rfl T.m_MeetError sc_Ltold.nd rfl rfl rfl rfl rfl (fun pn W E hth hps => (pss_one (ps_set (i := 2) sc_Ltold.nd rfl (Or.inl rfl) (pe_callX G_look_drawing (hr.mono (by decide)) rfl T.F5.mg T.F5.fn.kp T.F5.bd .nil hps (pa_cons (pv 0) (pa_cons (pv 1) pa_nil)))))) (fun ev => (pss_one (ps_set (i := 3) sc_Ltold.nd rfl (Or.inl rfl) (pv 4)))))
      (pss_cons (ps_if (pt_cmpR op_isN (pv 3) pe_non (nomark _)) (pss_one (ps_ret (pe_tup (pa_cons (pe_S [116, 111, 108, 100] (by decide +kernel)) (pa_cons (pv 2) pa_nil))))) pss_nil)
      (pss_cons (ps_set (i := 5) sc_Ltold.nd rfl (Or.inl rfl) (pe_callB (call_isXT K rfl) rfl T.z_isinstance boot_isinstance (pa_cons (pv 3) (pa_cons (pe_tup (pa_cons (pe_glob (v := .ref c_NoCut) rfl T.m_NoCut rfl) (pa_cons (pe_glob (v := .ref c_NoDeed) rfl T.m_NoDeed rfl) (pa_cons (pe_glob (v := .ref c_NoName) rfl T.m_NoName rfl) (pa_cons (pe_glob (v := .ref c_NoPaper) rfl T.m_NoPaper rfl) (pa_cons (pe_glob (v := .ref c_NoRow) rfl T.m_NoRow rfl) (pa_cons (pe_glob (v := .ref c_NoText) rfl T.m_NoText rfl) (pa_cons (pe_glob (v := .ref c_NoWord) rfl T.m_NoWord rfl) (pa_cons (pe_glob (v := .ref c_NoYard) rfl T.m_NoYard rfl) pa_nil))))))))) pa_nil))))
      (pss_cons (ps_set (i := 6) sc_Ltold.nd rfl (Or.inl rfl) (pe_callB (call_isXT K rfl) rfl T.z_isinstance boot_isinstance (pa_cons (pv 3) (pa_cons (pe_tup (pa_cons (pe_glob (v := .ref c_NotApart) rfl T.m_NotApart rfl) (pa_cons (pe_glob (v := .ref c_NotLone) rfl T.m_NotLone rfl) (pa_cons (pe_glob (v := .ref c_TooLong) rfl T.m_TooLong rfl) (pa_cons (pe_glob (v := .ref c_Twice) rfl T.m_Twice rfl) pa_nil))))) pa_nil))))
      (pss_cons (ps_if (PW.pt (pw_or (pt_not (pt_val (pe_callB (call_isX K rfl) rfl T.z_isinstance boot_isinstance (pa_cons (pv 3) (pa_cons (pe_glob (v := .ref c_NoDrawing) rfl T.m_NoDrawing rfl) pa_nil))))) (pw_or (pt_val (pv 5)) (pw_or (pt_val (pv 6)) (pw_or1 (pt_not (pt_val (pe_callB (call_isX K rfl) rfl T.z_isinstance boot_isinstance (pa_cons (pv 3) (pa_cons (pe_bltn (v := .ty "ValueError") rfl T.z_ValueError boot_VE rfl) pa_nil)))))))))) (pss_one (ps_ret (pe_tup (pa_cons (pe_S [101, 108, 115, 101] (by decide +kernel)) (pa_cons pe_int pa_nil))))) pss_nil)
      (pss_one (ps_ret (pe_lst (pa_cons (pe_S [114, 101, 102, 117, 115, 101, 100] (by decide +kernel)) (pa_cons (pe_xfldK K rfl (pv 3) rfl) (pa_cons (pe_xfldK K rfl (pv 3) rfl) pa_nil))))))))))))), ?_⟩
  obtain ⟨y, dr, ws, os, rfl, hD, q1, q2⟩ := h
  (repeat (first | refine ⟨_, rfl, ?_⟩ | refine ⟨_, _, rfl, rfl, ?_⟩ | refine ⟨rfl, ?_⟩ | refine And.intro (by first | decide | omega | assumption | exact Nat.le_of_ble_eq_true rfl | exact .inl ⟨by decide, by decide⟩ | exact .inr ⟨by decide, by decide⟩ | exact ⟨by decide, by decide⟩ | exact ⟨by omega, by omega⟩) ?_))
  refine ⟨y, dr, ws, os, rfl, hD, fun e H3 s3 => ?_, fun w k e d H3 hd3 s3 => ?_⟩
  · (repeat (first | refine ⟨_, rfl, ?_⟩ | refine ⟨_, _, rfl, rfl, ?_⟩ | refine ⟨rfl, ?_⟩ | refine And.intro (by first | decide | omega | assumption | exact Nat.le_of_ble_eq_true rfl | exact .inl ⟨by decide, by decide⟩ | exact .inr ⟨by decide, by decide⟩ | exact ⟨by decide, by decide⟩ | exact ⟨by omega, by omega⟩) ?_))
    exact fun p np => q1 e p _ upd_same (s3.trans (Same.upd np))
  · refine ⟨c_NoDrawing, rfl, T.r_NoDrawing, fun d' z => ⟨_, by cases z; exact hd3⟩, fun x nx => ?_⟩
    have sx := Same.upd (o := excO false x c_NoDrawing (some d)) nx
    have hx : upd H3 x (excO false x c_NoDrawing (some d)) x = some (excO false x c_NoDrawing (some d)) := upd_same
    have hd4 := sx _ _ hd3
    have s4 := s3.trans sx
    generalize upd H3 x (excO false x c_NoDrawing (some d)) = H4 at s4 hx hd4 ⊢
    (repeat (first | refine ⟨_, rfl, ?_⟩ | refine ⟨_, _, rfl, rfl, ?_⟩ | refine ⟨rfl, ?_⟩ | refine And.intro (by first | decide | omega | assumption | exact Nat.le_of_ble_eq_true rfl | exact .inl ⟨by decide, by decide⟩ | exact .inr ⟨by decide, by decide⟩ | exact ⟨by decide, by decide⟩ | exact ⟨by omega, by omega⟩) ?_))
    intro p np
    have sp := Same.upd (o := .tup [.ref c_NoCut, .ref c_NoDeed, .ref c_NoName, .ref c_NoPaper, .ref c_NoRow, .ref c_NoText, .ref c_NoWord, .ref c_NoYard]) np
    refine ⟨x, _, _, _, p, _, _, false, rfl, sp _ _ hx, fun d' z => ⟨_, by cases z; exact sp _ _ hd4⟩, T.x_NoDrawing, upd_same, rfl, kitAny_no (fun z hz => ?_), ?_⟩
    · rcases List.mem_cons.mp hz with rfl | hz
      · exact T.k_NoDrawing_NoCut
      rcases List.mem_cons.mp hz with rfl | hz
      · exact T.k_NoDrawing_NoDeed
      rcases List.mem_cons.mp hz with rfl | hz
      · exact T.k_NoDrawing_NoName
      rcases List.mem_cons.mp hz with rfl | hz
      · exact T.k_NoDrawing_NoPaper
      rcases List.mem_cons.mp hz with rfl | hz
      · exact T.k_NoDrawing_NoRow
      rcases List.mem_cons.mp hz with rfl | hz
      · exact T.k_NoDrawing_NoText
      rcases List.mem_cons.mp hz with rfl | hz
      · exact T.k_NoDrawing_NoWord
      rcases List.mem_cons.mp hz with rfl | hz
      · exact T.k_NoDrawing_NoYard
      cases hz
    (repeat (first | refine ⟨_, rfl, ?_⟩ | refine ⟨_, _, rfl, rfl, ?_⟩ | refine ⟨rfl, ?_⟩ | refine And.intro (by first | decide | omega | assumption | exact Nat.le_of_ble_eq_true rfl | exact .inl ⟨by decide, by decide⟩ | exact .inr ⟨by decide, by decide⟩ | exact ⟨by decide, by decide⟩ | exact ⟨by omega, by omega⟩) ?_))
    intro p2 np2
    have sp2 := sp.trans (Same.upd (o := .tup [.ref c_NotApart, .ref c_NotLone, .ref c_TooLong, .ref c_Twice]) np2)
    refine ⟨x, _, _, _, p2, _, _, false, rfl, sp2 _ _ hx, fun d' z => ⟨_, by cases z; exact sp2 _ _ hd4⟩, T.x_NoDrawing, upd_same, rfl, kitAny_no (fun z hz => ?_), ?_⟩
    · rcases List.mem_cons.mp hz with rfl | hz
      · exact T.k_NoDrawing_NotApart
      rcases List.mem_cons.mp hz with rfl | hz
      · exact T.k_NoDrawing_NotLone
      rcases List.mem_cons.mp hz with rfl | hz
      · exact T.k_NoDrawing_TooLong
      rcases List.mem_cons.mp hz with rfl | hz
      · exact T.k_NoDrawing_Twice
      cases hz
    (repeat (first | refine ⟨_, rfl, ?_⟩ | refine ⟨_, _, rfl, rfl, ?_⟩ | refine ⟨rfl, ?_⟩ | refine And.intro (by first | decide | omega | assumption | exact Nat.le_of_ble_eq_true rfl | exact .inl ⟨by decide, by decide⟩ | exact .inr ⟨by decide, by decide⟩ | exact ⟨by decide, by decide⟩ | exact ⟨by omega, by omega⟩) ?_))
    refine ⟨x, _, _, _, _, _, true, rfl, sp2 _ _ hx, fun d' z => ⟨_, by cases z; exact sp2 _ _ hd4⟩, T.x_NoDrawing, rfl, T.k_NoDrawing_NoDrawing, ?_⟩
    (repeat (first | refine ⟨_, rfl, ?_⟩ | refine ⟨_, _, rfl, rfl, ?_⟩ | refine ⟨rfl, ?_⟩ | refine And.intro (by first | decide | omega | assumption | exact Nat.le_of_ble_eq_true rfl | exact .inl ⟨by decide, by decide⟩ | exact .inr ⟨by decide, by decide⟩ | exact ⟨by decide, by decide⟩ | exact ⟨by omega, by omega⟩) ?_))
    refine ⟨x, _, _, _, _, _, true, rfl, sp2 _ _ hx, fun d' z => ⟨_, by cases z; exact sp2 _ _ hd4⟩, T.x_NoDrawing, rfl, T.k_NoDrawing_ValueError, ?_⟩
    (repeat (first | refine ⟨_, rfl, ?_⟩ | refine ⟨_, _, rfl, rfl, ?_⟩ | refine ⟨rfl, ?_⟩ | refine And.intro (by first | decide | omega | assumption | exact Nat.le_of_ble_eq_true rfl | exact .inl ⟨by decide, by decide⟩ | exact .inr ⟨by decide, by decide⟩ | exact ⟨by decide, by decide⟩ | exact ⟨by omega, by omega⟩) ?_))
    refine ⟨x, _, _, d, _, _, rfl, sp2 _ _ hx, T.x_NoDrawing, T.n_NoDrawing_word, sp2 _ _ hd4, rfl, ?_⟩
    (repeat (first | refine ⟨_, rfl, ?_⟩ | refine ⟨_, _, rfl, rfl, ?_⟩ | refine ⟨rfl, ?_⟩ | refine And.intro (by first | decide | omega | assumption | exact Nat.le_of_ble_eq_true rfl | exact .inl ⟨by decide, by decide⟩ | exact .inr ⟨by decide, by decide⟩ | exact ⟨by decide, by decide⟩ | exact ⟨by omega, by omega⟩) ?_))
    refine ⟨x, _, _, d, _, _, rfl, sp2 _ _ hx, T.x_NoDrawing, T.n_NoDrawing_at, sp2 _ _ hd4, rfl, ?_⟩
    (repeat (first | refine ⟨_, rfl, ?_⟩ | refine ⟨_, _, rfl, rfl, ?_⟩ | refine ⟨rfl, ?_⟩ | refine And.intro (by first | decide | omega | assumption | exact Nat.le_of_ble_eq_true rfl | exact .inl ⟨by decide, by decide⟩ | exact .inr ⟨by decide, by decide⟩ | exact ⟨by decide, by decide⟩ | exact ⟨by omega, by omega⟩) ?_))
    intro p3 np3
    exact q2 w k e p3 _ upd_same (s4.trans (sp2.trans (Same.upd np3)))
theorem okV_Lother : FnOkV P w K mg base 1 f8 d8 ["_law_letter"] (sp_Lother K) (fun s u s' => Tk (s.toks + 1) s'.toks u) := by
  refine T.F8.fn.okV sc_Lother (fun vs H Q E h => len_Lother h) ⟨_, _, rfl, rfl⟩ (fun cdv A outer s H vs Q E hr h => ?_)
  refine ⟨_, (pssv_set (i := 1) sc_Lother.nd rfl (Or.inl rfl) (pe_S [97, 98, 99, 100, 101, 102, 103, 104, 105, 106, 107, 108, 109, 110, 111, 112, 113, 114, 115, 116, 117, 118, 119, 120, 121, 122] (by decide +kernel)) (pssv_set (i := 2) sc_Lother.nd rfl (Or.inl rfl) (pe_S [65, 66, 67, 68, 69, 70, 71, 72, 73, 74, 75, 76, 77, 78, 79, 80, 81, 82, 83, 84, 85, 86, 87, 88, 89, 90] (by decide +kernel)) (pssv_if (pt_cmpR op_inS (pv 0) (pv 1) (by with_unfolding_all rfl)) (pssv_retIx (pv 2) (pe_bmK K rfl PySem.F.plainAttrs_str PySem.F.slot_str_index PySem.F.type_str_index mt_indexS (pv 1) (pa_cons (pv 0) pa_nil)) (fun _ _ => rfl)) (pssv_retIx (pv 1) (pe_bmK K rfl PySem.F.plainAttrs_str PySem.F.slot_str_index PySem.F.type_str_index mt_indexS (pv 2) (pa_cons (pv 0) pa_nil)) (fun _ _ => rfl))))), ?_⟩
  obtain ⟨c, rfl, hc, q⟩ := h
  refine ⟨_, rfl, _, rfl, c, smalls, rfl, rfl, _, rfl, ite2 (fun e => ?_) (fun e => ?_)⟩
  · have hm : c ∈ smalls := of_decide_eq_true e
    exact ⟨_, rfl, _, rfl, rfl, _, rfl, smalls, c, rfl, rfl, hm, caps, _, ctr c, rfl, rfl, by decide, other_small c hm, q⟩
  · have hm : c ∈ caps := hc.resolve_left fun z => e (decide_eq_true z)
    exact ⟨_, rfl, _, rfl, rfl, _, rfl, caps, c, rfl, rfl, hm, smalls, _, ctr c, rfl, rfl, by decide, other_cap c hm, q⟩
theorem ok_Lother : FnOk P w K mg base CX0 1 f8 d8 ["_law_letter"] (sp_Lother K) := (okV_Lother T).fn
theorem ok_Lstrands : FnOk P w K mg base CX0 2 f15 d15 ["_law_words_here", "_law_band"] (sp_Lstrands K) := by
  have G_Lother := ok_Lother (P := P) (w := w) (base := base) T
  refine T.F15.fn.ok sc_Lstrands (fun vs H Q E h => len_Lstrands h) (fun cdv A outer s H vs Q E hr h => ?_)
  refine ⟨_, (pss_cons (ps_set (i := 2) sc_Lstrands.nd rfl (Or.inl rfl) (pe_lst pa_nil))
      (pss_cons (ps_for PassesOwn.never rfl (pi_enumT K rfl rfl T.z_enumerate (pa_cons (pv 0) pa_nil)) (pg_tupK (n := 2) K rfl rfl (pgs_cons (pg_name (i := 3) sc_Lstrands.nd rfl (Or.inr rfl)) (pgs_cons (pg_name (i := 4) sc_Lstrands.nd rfl (Or.inl rfl)) pgs_nil))) (pss_one (ps_expr (pe_bmK K rfl PySem.F.plainAttrs_list PySem.F.slot_list_extend PySem.F.type_list_extend mt_extend (pv 2) (pa_cons (pe_compB ["_law_i", "_law_letter", "_law_c", "_law_band"] [none, none, some 3, some 1] (pi_enumS rfl T.z_enumerate (pa_cons (pv 4) pa_nil)) ⟨⟨rfl, rfl, by first | exact .inl rfl | exact .inr rfl⟩, ⟨⟨rfl, rfl, by first | exact .inl rfl | exact .inr rfl⟩, trivial⟩⟩ (fun _ _ _ _ => (pg_tupK (n := 2) K rfl rfl (pgs_cons (pg_name (i := 0) (by decide +kernel : List.Nodup (["_law_i", "_law_letter", "_law_c", "_law_band"] : List Str)) rfl (Or.inl rfl)) (pgs_cons (pg_name (i := 1) (by decide +kernel : List.Nodup (["_law_i", "_law_letter", "_law_c", "_law_band"] : List Str)) rfl (Or.inl rfl)) pgs_nil)))) (fun _ _ _ _ => (pf_one (pt_cmpR (op_inK K rfl) (pv 1) (pe_tup (pa_cons (pv 3) (pa_cons (pe_call G_Lother (hr.mono (by decide)) rfl T.F8.mg T.F8.fn.kp T.F8.bd .nil pass0 (pa_cons (pv 3) pa_nil)) pa_nil))) (by with_unfolding_all rfl)))) (fun _ _ _ _ => (pe_tup (pa_cons (pv 2) (pa_cons (pv 0) pa_nil))))) pa_nil)))))
      (pss_one (ps_ret (pv 2))))), ?_⟩
  obtain ⟨wt, ws, band, rfl, hwt, hf, hw, hb, q⟩ := h
  have hs : (100000 : Nat) < sizeLine := by decide
  have hbl2 : Lt band := .inl hb
  (repeat (first | refine ⟨_, rfl, ?_⟩ | refine ⟨_, _, rfl, rfl, ?_⟩ | refine ⟨_, _, _, rfl, rfl, by first | assumption | omega, by assumption, ?_⟩ | refine ⟨rfl, ?_⟩ | refine And.intro (by first | decide | omega | assumption | exact Nat.le_of_ble_eq_true rfl | exact .inl ⟨by decide, by decide⟩ | exact .inr ⟨by decide, by decide⟩ | exact ⟨by decide, by decide⟩ | exact ⟨by omega, by omega⟩) ?_))
  intro p3 n3
  refine ⟨_, rfl, wt, rfl, ⟨_, SqT.of ((Same.upd n3) _ _ hwt)⟩, ?_⟩
  refine for_enumT (K := K) (a := wt) (xs := txs ws) (fun j σ H' => ∃ (ps : List Pr) (cv wv : Option V), σ = [some (.ref wt), some (.str (S [band])), some (.ref p3), cv, wv] /\ H' p3 = some (.lst (prv ps)) /\ (∀ p ∈ ps, PrOk H' p) /\ ps.map Pr.pair = strAll band ws j /\ ps.length <= 12 * j /\ Same H H')
    ⟨[], none, none, rfl, upd_same, fun _ h => absurd h List.not_mem_nil, rfl, Nat.zero_le _, Same.upd n3⟩ (fun j σ H' _ ⟨_, _, _, _, _, _, _, _, h⟩ => SqT.of (h _ _ hwt)) ?_ ?_
  · rintro j x σ H3 T hxj ⟨ps, cv3, wv3, rfl, hp3, hps, hpe, hpl, s3⟩ nT
    have hj : j < ws.length := by
      have := (List.getElem?_eq_some_iff.mp hxj).1
      rwa [txs_len] at this
    rw [txs_at hj] at hxj
    cases hxj
    have hjw : ws[j]? = some ws[j] := List.getElem?_eq_getElem hj
    obtain ⟨hwy, hwz⟩ := hw _ (List.getElem_mem hj)
    generalize ws[j] = w at hjw hwy hwz ⊢
    refine ⟨T, _, rfl, SqT.of upd_same, rfl, _, _, rfl, _, _, rfl, rfl, ?_⟩
    have s3T := Same.upd (o := .tup [.int j, .str (S w)]) nT
    have hp3T := s3T _ _ hp3
    refine ⟨_, rfl, .inl ⟨rfl, _, SqL.of hp3T⟩, _, rfl, w, rfl, ?_⟩
    refine comp_enum (l := w) (fun m acc H' => Same (upd H3 T (.tup [.int j, .str (S w)])) H' /\ ∃ vs : List Pr, acc = prv vs /\ (∀ p ∈ vs, PrOk H' p) /\ vs.map Pr.pair = strUp band j w m /\ vs.length <= m) (by omega) ⟨Same.refl _, [], rfl, fun _ h => absurd h List.not_mem_nil, rfl, Nat.le_refl _⟩ ?_ ?_
    · rintro m l acc H4 T2 Nx hm hal ⟨s4, vs, rfl, hvs, hve, hvl⟩ nT2 nx
      have hmw : m < w.length := (List.getElem?_eq_some_iff.mp hm).1
      have es := strUp_succ (band := band) (c := j) hm
      rw [show onB band l = (decide (l = band) || decide (l = ctr band)) from rfl] at es
      refine ⟨T2, _, rfl, SqT.of upd_same, rfl, _, _, rfl, _, _, rfl, rfl, ?_⟩
      refine ⟨⟨rfl, rfl, trivial⟩, ?_⟩
      have s4T := Same.upd (o := .tup [.int m, .str (S [l])]) nT2
      refine ⟨_, rfl, _, rfl, _, rfl, band, rfl, hbl2, by show 2 <= sizeLine; decide, fun t nt => ?_⟩
      refine ⟨t, _, rfl, .inr (SqT.of upd_same), rfl, rfl, _, rfl, ?_⟩
      have s4t := s4T.trans (Same.upd (o := .tup [.str (S [band]), .str (S [ctr band])]) nt)
      generalize upd (upd H4 T2 (.tup [.int m, .str (S [l])])) t (.tup [.str (S [band]), .str (S [ctr band])]) = H5 at s4t ⊢
      show if inV (.str (S [l])) [.str (S [band]), .str (S [ctr band])] = true then _ else _
      rw [inV_two]
      refine ite2 (fun z => ?_) (fun z => ?_)
      · rw [if_pos z] at es
        refine ⟨_, rfl, _, rfl, by show 2 <= sizeLine; decide, fun t2 nt2 => ?_⟩
        refine nx _ _ (by simpa using hal) ⟨(s4.trans s4t).trans (Same.upd nt2), vs ++ [⟨t2, j, m⟩], prv_snoc vs ⟨t2, j, m⟩, fun p hp => ?_, by rw [List.map_append, hve, es]; rfl, by rw [List.length_append]; show vs.length + 1 <= _; omega⟩
        rcases List.mem_append.mp hp with g | g
        · exact (hvs p g).same (s4t.trans (Same.upd nt2))
        · have e2 := List.mem_singleton.mp g
          subst e2
          exact ⟨upd_same, by show j < 1000; omega, by show m < 1000; omega⟩
      · rw [if_neg z, List.append_nil] at es
        exact nx _ _ (Nat.le_succ_of_le hal) ⟨s4.trans s4t, vs, rfl, fun p hp => (hvs p hp).same s4t, by rw [es]; exact hve, by omega⟩
    · rintro acc H4 D hal ⟨s4, vs, rfl, hvs, hve, hvl⟩ hD
      have hp4 := s4 _ _ hp3T
      refine ⟨p3, D, _, _, rfl, rfl, (Same.upd hD) _ _ hp4, upd_same, by rw [prv_len, prv_len]; omega, ?_⟩
      rw [prv_app]
      have s34 : Same H3 (upd H4 D (.lst (prv vs))) := (s3T.trans s4).trans (Same.upd hD)
      have hp4D := (Same.upd (o := .lst (prv vs)) hD) _ _ hp4
      refine ⟨ps ++ vs, _, _, rfl, upd_same, fun p hp => ?_, by rw [List.map_append, hpe, hve, strAll_succ hjw], by rw [List.length_append]; omega, fun a o ea => by rw [upd_ne (ne_of_none ea n3)]; exact s34 _ _ (s3 a o ea)⟩
      rcases List.mem_append.mp hp with g | g
      · exact ((hps p g).same s34).ts (TSame.updL hp4D)
      · exact ((hvs p g).same (Same.upd hD)).ts (TSame.updL hp4D)
  · rintro σ H3 ⟨ps, cv3, wv3, rfl, hp3, hps, hpe, hpl, s3⟩
    rw [txs_len] at hpe
    exact ⟨_, rfl, q p3 ps H3 n3 hp3 hps hpe s3⟩
theorem ok_Ldue : FnOk P w K mg base CX0 3 f19 d19 ["_law_yard_here", "_law_drawing_here"] (sp_Ldue K) := by
  have G_Lbands := ok_Lbands (P := P) (w := w) (base := base) T
  have G_Lstrands := ok_Lstrands (P := P) (w := w) (base := base) T
  refine T.F19.fn.ok sc_Ldue (fun vs H Q E h => len_Ldue h) (fun cdv A outer s H vs Q E hr h => ?_)
  refine ⟨_, (pss_cons (ps_asg (pv 1) (pg_tupK (n := 2) K rfl rfl (pgs_cons (pg_name (i := 2) sc_Ldue.nd rfl (Or.inl rfl)) (pgs_cons (pg_name (i := 3) sc_Ldue.nd rfl (Or.inl rfl)) pgs_nil))))
      (pss_cons (ps_for PassesOwn.never rfl (pi_enumT K rfl rfl T.z_enumerate (pa_cons (pv 2) pa_nil)) (pg_tupK (n := 2) K rfl rfl (pgs_cons (pg_name (i := 4) sc_Ldue.nd rfl (Or.inl rfl)) (pgs_cons (pg_name (i := 5) sc_Ldue.nd rfl (Or.inl rfl)) pgs_nil))) (pss_one (ps_if (pt_cmpR op_gt (pe_callB (call_len_seqK K rfl) rfl T.z_len PySem.boot_len (pa_cons (pe_compB ["_law_sign_here", "_law_yard_here"] [none, some 0] (pi_str (pv 5)) ⟨⟨rfl, rfl, by first | exact .inl rfl | exact .inr rfl⟩, trivial⟩ (fun _ _ _ _ => (pg_name (i := 0) (by decide +kernel : List.Nodup (["_law_sign_here", "_law_yard_here"] : List Str)) rfl (Or.inl rfl))) (fun _ _ _ _ => (pf_one (pt_cmpR op_ninS (pv 0) (pv 1) (by with_unfolding_all rfl)))) (fun _ _ _ _ => (pv 0))) pa_nil)) pe_int (nomark _)) (pss_one (ps_ret (pe_lst (pa_cons (pe_S [114, 101, 102, 117, 115, 101, 100] (by decide +kernel)) (pa_cons (pe_S [119, 111, 114, 100, 115] (by decide +kernel)) (pa_cons (pv 4) pa_nil)))))) pss_nil)))
      (pss_cons (ps_set (i := 6) sc_Ldue.nd rfl (Or.inl rfl) (pe_call G_Lbands (hr.mono (by decide)) rfl T.F12.mg T.F12.fn.kp T.F12.bd .nil pass0 (pa_cons (pv 0) pa_nil)))
      (pss_cons (ps_if (pt_cmpR op_neI (pe_callB (call_len_seqK K rfl) rfl T.z_len PySem.boot_len (pa_cons (pv 3) pa_nil)) (pe_callB (call_len_seqK K rfl) rfl T.z_len PySem.boot_len (pa_cons (pv 6) pa_nil)) (nomark _)) (pss_one (ps_ret (pe_lst (pa_cons (pe_S [114, 101, 102, 117, 115, 101, 100] (by decide +kernel)) (pa_cons (pe_S [98, 97, 110, 100, 115] (by decide +kernel)) (pa_cons (pe_callB (call_len_seqK K rfl) rfl T.z_len PySem.boot_len (pa_cons (pv 3) pa_nil)) pa_nil)))))) pss_nil)
      (pss_cons (ps_for PassesOwn.never rfl (pi_range1 rfl T.z_range (pa_cons (pe_callB (call_len_seqK K rfl) rfl T.z_len PySem.boot_len (pa_cons (pv 6) pa_nil)) pa_nil)) (pg_name (i := 7) sc_Ldue.nd rfl (Or.inl rfl)) (pss_cons (ps_set (i := 8) sc_Ldue.nd rfl (Or.inl rfl) (pe_call G_Lstrands (hr.mono (by decide)) rfl T.F15.mg T.F15.fn.kp T.F15.bd .nil pass0 (pa_cons (pv 2) (pa_cons (pe_ix (ix_listK K rfl) (pv 6) (pv 7) (fun _ _ => rfl)) pa_nil))))
      (pss_one (ps_if (pt_cmpR (op_neD K rfl hr) (pe_callB (call_sortedB K rfl) rfl T.z_sorted boot_sorted (pa_cons (pe_ix (ix_tupK K rfl) (pv 3) (pv 7) (fun _ _ => rfl)) pa_nil)) (pv 8) (nomark _)) (pss_one (ps_ret (pe_lst (pa_cons (pe_S [114, 101, 102, 117, 115, 101, 100] (by decide +kernel)) (pa_cons (pe_S [115, 116, 114, 97, 110, 100, 115] (by decide +kernel)) (pa_cons (pv 7) pa_nil)))))) pss_nil))))
      (pss_one (ps_ret pe_bl))))))), ?_⟩
  obtain ⟨y, dr, ws, os, rfl, ⟨hy, hz, hB, hd⟩, q1, q2⟩ := h
  obtain ⟨⟨wt, ot, d1, d2, d3⟩, dO⟩ := hd
  have hs : (100000 : Nat) < sizeLine := by decide
  have hbl := bs_most y
  refine ⟨_, rfl, dr, _, rfl, SqT.of d1, rfl, _, _, rfl, _, _, rfl, rfl, ?_⟩
  generalize hO : wOut y 0 ws = out
  refine ⟨_, rfl, wt, rfl, ⟨_, SqT.of d2⟩, ?_⟩
  refine for_enumT (K := K) (a := wt) (xs := txs ws) (fun i σ H' => ∃ cv sv : Option V, σ = [some (.str (S y)), some (.ref dr), some (.ref wt), some (.ref ot), cv, sv, none, none, none] /\ wOut y i (ws.drop i) = out /\ Same H H') ⟨none, none, rfl, hO, Same.refl H⟩ (fun i σ H' _ ⟨_, _, _, _, h⟩ => SqT.of (h _ _ d2)) ?_ ?_
  · rintro i x σ H1 T hx ⟨av, sv, rfl, hw, s1⟩ nT
    have hi : i < ws.length := by
      have := (List.getElem?_eq_some_iff.mp hx).1
      rwa [txs_len] at this
    rw [txs_at hi] at hx
    cases hx
    have hw12 := (hB.wd _ (List.getElem_mem hi)).2
    rw [List.drop_eq_getElem_cons hi] at hw
    generalize ws[i] = w at hw hw12
    unfold wOut at hw
    refine ⟨T, _, rfl, SqT.of upd_same, rfl, _, _, rfl, _, _, rfl, rfl, ?_⟩
    have sT := s1.trans (Same.upd (o := .tup [.int i, .str (S w)]) nT)
    generalize upd H1 T (.tup [.int i, .str (S w)]) = H2 at sT ⊢
    refine ⟨_, rfl, w, rfl, ?_⟩
    refine comp_fix (xs := sgs w) (fun j acc H' => Same H2 H' /\ acc = sgs ((w.take j).filter fun d => !decide (d ∈ y))) (by rw [sgs_len]; omega) ⟨Same.refl _, rfl⟩ ?_ ?_
    · rintro j v acc H3 Nx hj hv hal ⟨s3, rfl⟩ nx
      obtain ⟨d, hd, rfl⟩ := sgs_get hv
      have e := filter_take (p := fun c => !decide (c ∈ y)) hd
      refine ⟨⟨rfl, trivial⟩, ?_⟩
      refine ⟨_, rfl, _, rfl, d, y, rfl, rfl, _, rfl, ite2 (fun z => ?_) (fun z => ?_)⟩
      · rw [if_pos z] at e
        exact ⟨_, rfl, nx _ _ (by simpa using hal) ⟨s3, by rw [e, <- sgs_snoc]⟩⟩
      · rw [if_neg z, List.append_nil] at e
        exact nx _ _ (Nat.le_succ_of_le hal) ⟨s3, by rw [e]⟩
    · rintro acc H3 D hal ⟨s3, rfl⟩ hD
      rw [sgs_len, List.take_length]
      have sD := sT.trans (s3.trans (Same.upd (o := .lst (sgs (w.filter fun d => !decide (d ∈ y)))) hD))
      refine ⟨D, _, rfl, .inl (SqL.of upd_same), _, _, rfl, rfl, _, rfl, ?_⟩
      generalize upd H3 D (.lst (sgs (w.filter fun d => !decide (d ∈ y)))) = H4 at sD ⊢
      by_cases e : frn y w = none
      · rw [if_pos e] at hw
        have ef : (w.filter fun d => !decide (d ∈ y)) = [] := List.filter_eq_nil_iff.mpr fun d hd => by simpa using frn_all e d hd
        exact iteN (by rw [ef]; rfl) ⟨_, _, rfl, hw, sD⟩
      · rw [if_neg e] at hw
        have hpos : 0 < (w.filter fun d => !decide (d ∈ y)).length := by
          rcases Nat.eq_zero_or_pos (w.filter fun d => !decide (d ∈ y)).length with z | z
          · refine absurd (frn_no fun d hd => ?_) e
            have := List.filter_eq_nil_iff.mp (List.length_eq_zero_iff.mp z) d hd
            simpa using this
          · exact z
        refine iteY (by rw [sgs_len]; exact decide_eq_true (by omega)) ?_
        exact ⟨_, rfl, by show 3 <= sizeLine; decide, fun p np => q2 _ _ (dueO_w (by rw [hO, <- hw])) p _ upd_same (sD.trans (Same.upd np))⟩
  · rintro σ H1 ⟨av, sv, rfl, hw, s1⟩
    rw [txs_len, List.drop_length] at hw
    have hw' : wOut y 0 ws = none := by rw [hO, <- hw]; rfl
    have hwy : ∀ w ∈ ws, ∀ c ∈ w, c ∈ y := fun w hw => frn_all (wOut_none hw' w hw)
    have hwl : ∀ w ∈ ws, (∀ c ∈ w, Lt c) /\ w.length <= 12 := fun w hw => ⟨fun c hc => hy c (hwy w hw c hc), (hB.wd w hw).2⟩
    rw [dueO_o hw'] at q1 q2
    have hom := hB.om
    refine ⟨_, rfl, y, rfl, by omega, fun nm l2 H2 n2 hnm hl2 hw2 s2 => ?_⟩
    rw [smalls_low hy] at hl2
    have el := bsOf_eq hl2 hw2
    subst el
    have s02 := s1.trans s2
    by_cases hlen : os.length = (bsOf y).length
    · refine ⟨_, rfl, ot, _, rfl, .inr (SqT.of (s02 _ _ d3)), _, rfl, nm, _, rfl, .inl (SqL.of hnm), _, _, rfl, rfl, _, rfl, iteN (by rw [oiv_len, sgs_len, hlen]; simp) ?_⟩
      have eo : oOut y ws (os.map ois) = (sOut ws 0 (bsOf y) (os.map ois)).map fun k => (wStrands3, k) := by unfold oOut; rw [if_pos (by rw [List.length_map]; exact hlen)]
      rw [eo] at q1 q2
      generalize hO2 : sOut ws 0 (bsOf y) (os.map ois) = out2 at q1 q2
      refine ⟨_, rfl, nm, _, rfl, .inl (SqL.of hnm), _, rfl, ?_⟩
      rw [sgs_len]
      refine ⟨by omega, by omega, ?_⟩
      refine for_range (fun i σ H' => ∃ (kv stv : Option V), σ = [some (.str (S y)), some (.ref dr), some (.ref wt), some (.ref ot), av, sv, some (.ref nm), kv, stv] /\ sOut ws i ((bsOf y).drop i) ((os.map ois).drop i) = out2 /\ H' nm = some (.lst (sgs (bsOf y))) /\ Same H H') ⟨none, none, rfl, hO2, hnm, s02⟩ ?_ ?_
      · rintro i σ H3 hi ⟨kv, stv, rfl, hso, hnm3, s3⟩
        have hi' : i < (bsOf y).length := by omega
        have hb : (bsOf y)[i]? = some (bsOf y)[i] := List.getElem?_eq_getElem hi'
        have hbm := List.getElem_mem hi'
        have hi2 : i < os.length := by omega
        have ho : os[i]? = some os[i] := List.getElem?_eq_getElem hi2
        have hom' := List.getElem_mem hi2
        rw [List.drop_eq_getElem_cons hi', List.drop_eq_getElem_cons (show i < (os.map ois).length by rw [List.length_map]; exact hi2), List.getElem_map] at hso
        generalize os[i] = o at ho hom' hso
        generalize (bsOf y)[i] = b at hb hbm hso
        have hbs := bs_lt hy b hbm
        have hbv : (sgs (bsOf y))[i]? = some (V.str (S [b])) := by unfold sgs; rw [List.getElem?_map, hb]; rfl
        unfold sOut at hso
        have hlz := hB.op o hom'
        rw [Int.zero_add]
        refine ⟨_, rfl, _, rfl, _, rfl, nm, _, _, _, rfl, rfl, SqL.of hnm3, atI_nat hbv, wt, ws, b, rfl, s3 _ _ d2, hB.few, hwl, hbs, fun q3 ps H4 nq3 hq3 hps hpe s4 => ?_⟩
        have s04 := s3.trans s4
        have ok4 := (dO o hom').ts (TSame.of s04)
        refine ⟨_, rfl, _, rfl, ot, _, _, _, rfl, rfl, SqT.of (s04 _ _ d3), atI_nat (oiv_at ho), ?_⟩
        refine ⟨o.o, piv o.ps, ois o, rfl, .inr (SqT.of ok4.tp), prs_pi ok4.pr, by rw [piv_len]; omega, fun qa idx hidx nq => ?_⟩
        have sQ := Same.upd (o := .lst (idx.map fun i => (piv o.ps).getD i .non)) nq
        have hqa := upd_same (H := H4) (a := qa) (o := HO.lst (idx.map fun i => (piv o.ps).getD i .non))
        have hq35 := sQ _ _ hq3
        have hps5 : ∀ p ∈ ps, PrOk (upd H4 qa (.lst (idx.map fun i => (piv o.ps).getD i .non))) p := fun p hp => (hps p hp).same sQ
        have ok5 := ok4.ts (TSame.of sQ)
        have s05 := s04.trans sQ
        have hnm5 := sQ _ _ (s4 _ _ hnm3)
        generalize upd H4 qa (.lst (idx.map fun i => (piv o.ps).getD i .non)) = H5 at hqa hq35 hps5 ok5 s05 hnm5 ⊢
        have hil : ∀ i ∈ idx, i < o.ps.length := fun i hi => by
          have := hidx.1.mem_iff.mp hi
          rw [List.mem_range] at this
          unfold ois at this
          rwa [List.length_map] at this
        refine ⟨_, rfl, .list ((idxL (ois o) idx).map ipD), .list ((sts b ws).map ipD), .lst (SqL.of hqa) (rdds_idx ok5.pr hil), .lst (SqL.of hq35) (by rw [<- sts_data, <- hpe]; exact rdds_prs hps5), ⟨lay_ip _, lay_ip _⟩, by show PyData.depthAll _ + 1 <= 60; have := dep_ip (idxL (ois o) idx); omega, ?_⟩
        have ev : PyData.eqv (.list ((idxL (ois o) idx).map ipD)) (.list ((sts b ws).map ipD)) = decide ((ois o).Perm (sts b ws)) := (eqv_ips _ _).trans (idx_eq hidx (sts_rise b ws))
        rw [ev]
        by_cases hp : (ois o).Perm (sts b ws)
        · rw [if_pos hp] at hso
          refine ⟨_, rfl, iteN (by rw [decide_eq_true hp]; rfl) ?_⟩
          exact ⟨_, _, rfl, hso, hnm5, s05⟩
        · rw [if_neg hp] at hso
          refine ⟨_, rfl, iteY (by rw [decide_eq_false hp]; rfl) ?_⟩
          exact ⟨_, rfl, by show 3 <= sizeLine; decide, fun p np => q2 wStrands3 i (by rw [<- hso]; rfl) p _ upd_same (s05.trans (Same.upd np))⟩
      · rintro σ H3 ⟨kv, stv, rfl, hso, hnm3, s3⟩
        have e0 : ((((bsOf y).length : Nat) : Int)).toNat = (bsOf y).length := Int.toNat_natCast _
        rw [e0, List.drop_length] at hso
        exact q1 (by rw [<- hso]; rfl) _ s3
    · refine ⟨_, rfl, ot, _, rfl, .inr (SqT.of (s02 _ _ d3)), _, rfl, nm, _, rfl, .inl (SqL.of hnm), _, _, rfl, rfl, _, rfl, iteY (by rw [oiv_len, sgs_len]; simp; omega) ?_⟩
      have eo : oOut y ws (os.map ois) = some (wBands3, os.length) := by unfold oOut; rw [List.length_map, if_neg hlen]
      refine ⟨_, rfl, ot, _, rfl, .inr (SqT.of (s02 _ _ d3)), ?_⟩
      rw [oiv_len]
      exact ⟨by show 3 <= sizeLine; decide, fun p np => q2 _ _ eo p _ upd_same (s02.trans (Same.upd np))⟩
theorem ok_Lbox : FnOk P w K mg base CX0 1 f6 d6 ["_law_script", "_law_k"] (sp_Lbox K) := by
  refine T.F6.fn.ok sc_Lbox (fun vs H Q E h => len_Lbox h) (fun cdv A outer s H vs Q E hr h => ?_)
  refine ⟨_, (pss_cons (ps_set (i := 2) sc_Lbox.nd rfl (Or.inl rfl) (pe_op op_add (pe_op op_mul pe_int (pv 1)) pe_int))
      (pss_cons (ps_if (pt_cmpR op_lt (pv 1) (pe_callB (call_len_seqK K rfl) rfl T.z_len PySem.boot_len (pa_cons (pv 0) pa_nil)) (nomark _)) (pss_one (ps_set (i := 2) sc_Lbox.nd rfl (Or.inl rfl) (pe_ix (ix_listK K rfl) (pv 0) (pv 1) (fun _ _ => rfl)))) (pss_one (ps_if (pt_cmpR op_gt (pe_callB (call_len_seqK K rfl) rfl T.z_len PySem.boot_len (pa_cons (pv 0) pa_nil)) pe_int (nomark _)) (pss_one (ps_set (i := 2) sc_Lbox.nd rfl (Or.inl rfl) (pe_op op_add (pv 2) (pe_op op_mul (pe_op op_mod (pe_ix (ix_listK K rfl) (pv 0) (pe_op op_mod (pv 1) (pe_callB (call_len_seqK K rfl) rfl T.z_len PySem.boot_len (pa_cons (pv 0) pa_nil))) (fun _ _ => rfl)) pe_int) pe_int)))) pss_nil)))
      (pss_cons (ps_set (i := 3) sc_Lbox.nd rfl (Or.inl rfl) (pe_op op_mod (pe_op op_pow (pe_op op_add (pe_op op_add (pe_op op_mod (pv 2) pe_int) (pe_op op_mul pe_int (pv 1))) pe_int) pe_int) pe_int))
      (pss_one (ps_ret (pe_lst (pa_cons (pe_ix (ix_listK K rfl) (pe_lst (pa_cons pe_int (pa_cons (pv 2) pa_nil))) (pe_callTy call_int1 rfl T.z_int boot_int (pa_cons (pe_cmpR op_ge (pv 2) (pe_op op_pow pe_int pe_int) (nomark _)) pa_nil)) (fun _ _ => rfl)) (pa_cons (pe_op op_add (pe_op op_mod (pv 3) pe_int) pe_int) pa_nil)))))))), ?_⟩
  obtain ⟨a, ns, k, rfl, hS, hk, q⟩ := h
  have hp : (0 : Int) < 2147483629 := by decide
  (repeat (first | refine ⟨_, rfl, ?_⟩ | refine ⟨_, _, rfl, rfl, ?_⟩ | refine ⟨rfl, ?_⟩ | refine And.intro (by first | decide | omega | assumption | exact Nat.le_of_ble_eq_true rfl | exact .inl ⟨by decide, by decide⟩ | exact .inr ⟨by decide, by decide⟩ | exact ⟨by decide, by decide⟩ | exact ⟨by omega, by omega⟩) ?_))
  refine ⟨a, _, rfl, .inl hS, ?_⟩
  (repeat (first | refine ⟨_, rfl, ?_⟩ | refine ⟨_, _, rfl, rfl, ?_⟩ | refine ⟨rfl, ?_⟩ | refine And.intro (by first | decide | omega | assumption | exact Nat.le_of_ble_eq_true rfl | exact .inl ⟨by decide, by decide⟩ | exact .inr ⟨by decide, by decide⟩ | exact ⟨by decide, by decide⟩ | exact ⟨by omega, by omega⟩) ?_))
  refine ite2 (fun e => ?_) (fun e => ?_)
  · have e' : (k : Int) < ((ns.map V.int).length : Nat) := of_decide_eq_true e
    rw [List.length_map] at e'
    obtain ⟨z, hz⟩ := ints_at (ns := ns) (i := k) (by omega)
    (repeat (first | refine ⟨_, rfl, ?_⟩ | refine ⟨_, _, rfl, rfl, ?_⟩ | refine ⟨rfl, ?_⟩ | refine And.intro (by first | decide | omega | assumption | exact Nat.le_of_ble_eq_true rfl | exact .inl ⟨by decide, by decide⟩ | exact .inr ⟨by decide, by decide⟩ | exact ⟨by decide, by decide⟩ | exact ⟨by omega, by omega⟩) ?_))
    refine ⟨a, _, k, _, rfl, rfl, hS, atI_nat hz, ?_⟩
    (repeat (first | refine ⟨_, rfl, ?_⟩ | refine ⟨_, _, rfl, rfl, ?_⟩ | refine ⟨rfl, ?_⟩ | refine And.intro (by first | decide | omega | assumption | exact Nat.le_of_ble_eq_true rfl | exact .inl ⟨by decide, by decide⟩ | exact .inr ⟨by decide, by decide⟩ | exact ⟨by decide, by decide⟩ | exact ⟨by omega, by omega⟩) ?_))
    refine fun p1 n1 => ?_
    (repeat (first | refine ⟨_, rfl, ?_⟩ | refine ⟨_, _, rfl, rfl, ?_⟩ | refine ⟨rfl, ?_⟩ | refine And.intro (by first | decide | omega | assumption | exact Nat.le_of_ble_eq_true rfl | exact .inl ⟨by decide, by decide⟩ | exact .inr ⟨by decide, by decide⟩ | exact ⟨by decide, by decide⟩ | exact ⟨by omega, by omega⟩) ?_))
    refine .inr ⟨_, rfl, ?_⟩
    obtain ⟨y, hy⟩ := box_at _ z
    refine ⟨p1, _, _, _, rfl, rfl, SqL.of upd_same, hy, ?_⟩
    (repeat (first | refine ⟨_, rfl, ?_⟩ | refine ⟨_, _, rfl, rfl, ?_⟩ | refine ⟨rfl, ?_⟩ | refine And.intro (by first | decide | omega | assumption | exact Nat.le_of_ble_eq_true rfl | exact .inl ⟨by decide, by decide⟩ | exact .inr ⟨by decide, by decide⟩ | exact ⟨by decide, by decide⟩ | exact ⟨by omega, by omega⟩) ?_))
    exact fun p2 n2 => q p2 _ (Same.free (Same.upd n1) n2) ⟨_, _, upd_same⟩ ((Same.upd n1).trans (Same.upd n2))
  · (repeat (first | refine ⟨_, rfl, ?_⟩ | refine ⟨_, _, rfl, rfl, ?_⟩ | refine ⟨rfl, ?_⟩ | refine And.intro (by first | decide | omega | assumption | exact Nat.le_of_ble_eq_true rfl | exact .inl ⟨by decide, by decide⟩ | exact .inr ⟨by decide, by decide⟩ | exact ⟨by decide, by decide⟩ | exact ⟨by omega, by omega⟩) ?_))
    refine ⟨a, _, rfl, .inl hS, ?_⟩
    (repeat (first | refine ⟨_, rfl, ?_⟩ | refine ⟨_, _, rfl, rfl, ?_⟩ | refine ⟨rfl, ?_⟩ | refine And.intro (by first | decide | omega | assumption | exact Nat.le_of_ble_eq_true rfl | exact .inl ⟨by decide, by decide⟩ | exact .inr ⟨by decide, by decide⟩ | exact ⟨by decide, by decide⟩ | exact ⟨by omega, by omega⟩) ?_))
    refine ite2 (fun e2 => ?_) (fun e2 => ?_)
    · have e' : (0 : Int) < ((ns.map V.int).length : Nat) := of_decide_eq_true e2
      have hl : (0 : Int) < (ns.length : Int) := by rw [List.length_map] at e'; exact e'
      have m1 : 0 <= (k : Int) % (ns.length : Int) := Int.emod_nonneg _ (by omega)
      have m2 : (k : Int) % (ns.length : Int) < (ns.length : Int) := Int.emod_lt_of_pos _ hl
      obtain ⟨z, hz⟩ := ints_at (ns := ns) (i := ((k : Int) % (ns.length : Int)).toNat) (by omega)
      have hz' : atI (ns.map V.int) ((k : Int) % ((ns.map V.int).length : Nat)) = some (V.int z) := by
        have := atI_nat hz
        rw [Int.toNat_of_nonneg m1] at this
        rw [List.length_map]
        exact this
      (repeat (first | refine ⟨_, rfl, ?_⟩ | refine ⟨_, _, rfl, rfl, ?_⟩ | refine ⟨rfl, ?_⟩ | refine And.intro (by first | decide | omega | assumption | exact Nat.le_of_ble_eq_true rfl | exact .inl ⟨by decide, by decide⟩ | exact .inr ⟨by decide, by decide⟩ | exact ⟨by decide, by decide⟩ | exact ⟨by omega, by omega⟩) ?_))
      refine ⟨a, _, rfl, .inl hS, ?_⟩
      (repeat (first | refine ⟨_, rfl, ?_⟩ | refine ⟨_, _, rfl, rfl, ?_⟩ | refine ⟨rfl, ?_⟩ | refine And.intro (by first | decide | omega | assumption | exact Nat.le_of_ble_eq_true rfl | exact .inl ⟨by decide, by decide⟩ | exact .inr ⟨by decide, by decide⟩ | exact ⟨by decide, by decide⟩ | exact ⟨by omega, by omega⟩) ?_))
      refine ⟨a, _, _, _, rfl, rfl, hS, hz', ?_⟩
      (repeat (first | refine ⟨_, rfl, ?_⟩ | refine ⟨_, _, rfl, rfl, ?_⟩ | refine ⟨rfl, ?_⟩ | refine And.intro (by first | decide | omega | assumption | exact Nat.le_of_ble_eq_true rfl | exact .inl ⟨by decide, by decide⟩ | exact .inr ⟨by decide, by decide⟩ | exact ⟨by decide, by decide⟩ | exact ⟨by omega, by omega⟩) ?_))
      refine fun p1 n1 => ?_
      (repeat (first | refine ⟨_, rfl, ?_⟩ | refine ⟨_, _, rfl, rfl, ?_⟩ | refine ⟨rfl, ?_⟩ | refine And.intro (by first | decide | omega | assumption | exact Nat.le_of_ble_eq_true rfl | exact .inl ⟨by decide, by decide⟩ | exact .inr ⟨by decide, by decide⟩ | exact ⟨by decide, by decide⟩ | exact ⟨by omega, by omega⟩) ?_))
      refine .inr ⟨_, rfl, ?_⟩
      obtain ⟨y, hy⟩ := box_at _ _
      refine ⟨p1, _, _, _, rfl, rfl, SqL.of upd_same, hy, ?_⟩
      (repeat (first | refine ⟨_, rfl, ?_⟩ | refine ⟨_, _, rfl, rfl, ?_⟩ | refine ⟨rfl, ?_⟩ | refine And.intro (by first | decide | omega | assumption | exact Nat.le_of_ble_eq_true rfl | exact .inl ⟨by decide, by decide⟩ | exact .inr ⟨by decide, by decide⟩ | exact ⟨by decide, by decide⟩ | exact ⟨by omega, by omega⟩) ?_))
      exact fun p2 n2 => q p2 _ (Same.free (Same.upd n1) n2) ⟨_, _, upd_same⟩ ((Same.upd n1).trans (Same.upd n2))
    · (repeat (first | refine ⟨_, rfl, ?_⟩ | refine ⟨_, _, rfl, rfl, ?_⟩ | refine ⟨rfl, ?_⟩ | refine And.intro (by first | decide | omega | assumption | exact Nat.le_of_ble_eq_true rfl | exact .inl ⟨by decide, by decide⟩ | exact .inr ⟨by decide, by decide⟩ | exact ⟨by decide, by decide⟩ | exact ⟨by omega, by omega⟩) ?_))
      refine fun p1 n1 => ?_
      (repeat (first | refine ⟨_, rfl, ?_⟩ | refine ⟨_, _, rfl, rfl, ?_⟩ | refine ⟨rfl, ?_⟩ | refine And.intro (by first | decide | omega | assumption | exact Nat.le_of_ble_eq_true rfl | exact .inl ⟨by decide, by decide⟩ | exact .inr ⟨by decide, by decide⟩ | exact ⟨by decide, by decide⟩ | exact ⟨by omega, by omega⟩) ?_))
      refine .inr ⟨_, rfl, ?_⟩
      obtain ⟨y, hy⟩ := box_at _ _
      refine ⟨p1, _, _, _, rfl, rfl, SqL.of upd_same, hy, ?_⟩
      (repeat (first | refine ⟨_, rfl, ?_⟩ | refine ⟨_, _, rfl, rfl, ?_⟩ | refine ⟨rfl, ?_⟩ | refine And.intro (by first | decide | omega | assumption | exact Nat.le_of_ble_eq_true rfl | exact .inl ⟨by decide, by decide⟩ | exact .inr ⟨by decide, by decide⟩ | exact ⟨by decide, by decide⟩ | exact ⟨by omega, by omega⟩) ?_))
      exact fun p2 n2 => q p2 _ (Same.free (Same.upd n1) n2) ⟨_, _, upd_same⟩ ((Same.upd n1).trans (Same.upd n2))
theorem ok_Lyard : FnOk P w K mg base CX0 2 f9 d9 ["_law_box_here", "_law_few", "_law_top"] (sp_Lyard K) := by
  have G_Ltake := ok_Ltake (P := P) (w := w) (base := base) T
  have G_Lother := ok_Lother (P := P) (w := w) (base := base) T
  refine T.F9.fn.ok sc_Lyard (fun vs H Q E h => len_Lyard h) (fun cdv A outer s H vs Q E hr h => ?_)
  refine ⟨_, (pss_cons (ps_set (i := 3) sc_Lyard.nd rfl (Or.inl rfl) (pe_callTy (call_listS rfl) rfl T.z_list boot_list (pa_cons (pe_S [97, 98, 99, 100, 101, 102, 103, 104, 105, 106, 107, 108, 109, 110, 111, 112, 113, 114, 115, 116, 117, 118, 119, 120, 121, 122] (by decide +kernel)) pa_nil)))
      (pss_cons (ps_set (i := 4) sc_Lyard.nd rfl (Or.inl rfl) (pe_lst pa_nil))
      (pss_cons (ps_for PassesOwn.never rfl (pi_range1 rfl T.z_range (pa_cons (pe_op op_add (pv 1) (pe_call G_Ltake (hr.mono (by decide)) rfl T.F7.mg T.F7.fn.kp T.F7.bd .nil pass0 (pa_cons (pv 0) (pa_cons (pe_op op_add (pe_op op_sub (pv 2) (pv 1)) pe_int) pa_nil)))) pa_nil)) (pg_name (i := 5) sc_Lyard.nd rfl (Or.inl rfl)) (pss_cons (ps_set (i := 6) sc_Lyard.nd rfl (Or.inl rfl) (pe_bmK K rfl PySem.F.plainAttrs_list PySem.F.slot_list_pop PySem.F.type_list_pop mt_popAt (pv 3) (pa_cons (pe_call G_Ltake (hr.mono (by decide)) rfl T.F7.mg T.F7.fn.kp T.F7.bd .nil pass0 (pa_cons (pv 0) (pa_cons (pe_callB (call_len_seqK K rfl) rfl T.z_len PySem.boot_len (pa_cons (pv 3) pa_nil)) pa_nil))) pa_nil)))
      (pss_one (ps_set (i := 4) sc_Lyard.nd rfl (Or.inl rfl) (pe_op op_cat (pv 4) (pe_lst (pa_cons (pv 6) (pa_cons (pe_call G_Lother (hr.mono (by decide)) rfl T.F8.mg T.F8.fn.kp T.F8.bd .nil pass0 (pa_cons (pv 6) pa_nil)) pa_nil))))))))
      (pss_cons (ps_set (i := 7) sc_Lyard.nd rfl (Or.inl rfl) (pe_S [] (by decide +kernel)))
      (pss_cons (ps_whileN PassesOwn.never (pt_cmpR op_gt (pe_callB (call_len_seqK K rfl) rfl T.z_len PySem.boot_len (pa_cons (pv 4) pa_nil)) pe_int (nomark _)) (pss_one (ps_set (i := 7) sc_Lyard.nd rfl (Or.inl rfl) (pe_op op_addS (pv 7) (pe_bmK K rfl PySem.F.plainAttrs_list PySem.F.slot_list_pop PySem.F.type_list_pop mt_popAt (pv 4) (pa_cons (pe_call G_Ltake (hr.mono (by decide)) rfl T.F7.mg T.F7.fn.kp T.F7.bd .nil pass0 (pa_cons (pv 0) (pa_cons (pe_callB (call_len_seqK K rfl) rfl T.z_len PySem.boot_len (pa_cons (pv 4) pa_nil)) pa_nil))) pa_nil))))))
      (pss_one (ps_ret (pv 7)))))))), ?_⟩
  obtain ⟨b, few, top, rfl, hb, h1, h2, h3, q⟩ := h
  have hs : (100000 : Nat) < sizeLine := by decide
  (repeat (first | refine ⟨_, rfl, ?_⟩ | refine ⟨_, _, rfl, rfl, ?_⟩ | refine ⟨rfl, ?_⟩ | refine And.intro (by first | decide | omega | assumption | exact Nat.le_of_ble_eq_true rfl | exact .inl ⟨by decide, by decide⟩ | exact .inr ⟨by decide, by decide⟩ | exact ⟨by decide, by decide⟩ | exact ⟨by omega, by omega⟩) ?_))
  intro p1 n1
  (repeat (first | refine ⟨_, rfl, ?_⟩ | refine ⟨_, _, rfl, rfl, ?_⟩ | refine ⟨rfl, ?_⟩ | refine And.intro (by first | decide | omega | assumption | exact Nat.le_of_ble_eq_true rfl | exact .inl ⟨by decide, by decide⟩ | exact .inr ⟨by decide, by decide⟩ | exact ⟨by decide, by decide⟩ | exact ⟨by omega, by omega⟩) ?_))
  intro p2 n2
  have s1 : Same H (upd (upd H p1 (.lst (sgs smalls))) p2 (.lst [])) := (Same.upd n1).trans (Same.upd n2)
  have bp1 : p1 ≠ b := hb.ne n1
  have np2 : H p2 = none := Same.free (Same.upd n1) n2
  have bp2 : p2 ≠ b := hb.ne np2
  have p12 : p1 ≠ p2 := fun z => by rw [<- z, upd_same] at n2; cases n2
  (repeat (first | refine ⟨_, rfl, ?_⟩ | refine ⟨_, _, rfl, rfl, ?_⟩ | refine ⟨rfl, ?_⟩ | refine And.intro (by first | decide | omega | assumption | exact Nat.le_of_ble_eq_true rfl | exact .inl ⟨by decide, by decide⟩ | exact .inr ⟨by decide, by decide⟩ | exact ⟨by decide, by decide⟩ | exact ⟨by omega, by omega⟩) ?_))
  refine ⟨b, _, rfl, hb.same s1, by omega, by omega, fun n H1 hn hb1 s2 => ?_⟩
  (repeat (first | refine ⟨_, rfl, ?_⟩ | refine ⟨_, _, rfl, rfl, ?_⟩ | refine ⟨rfl, ?_⟩ | refine And.intro (by first | decide | omega | assumption | exact Nat.le_of_ble_eq_true rfl | exact .inl ⟨by decide, by decide⟩ | exact .inr ⟨by decide, by decide⟩ | exact ⟨by decide, by decide⟩ | exact ⟨by omega, by omega⟩) ?_))
  refine for_range (fun i σ H' => ∃ (pe : Addr) (L E : List Nat) (kv lv : Option V), σ = [some (.ref b), some (.int few), some (.int top), some (.ref p1), some (.ref pe), kv, lv, none] /\ YdW i L E /\ H' p1 = some (.lst (sgs L)) /\ H' pe = some (.lst (sgs E)) /\ p1 ≠ pe /\ H pe = none /\ BoxAt H' b /\ SameB b H H')
    ⟨p2, smalls, [], none, none, rfl, YdW.start, s2 _ _ (by rw [upd_ne p12, upd_same]; rfl) bp1, s2 _ _ upd_same bp2, p12, np2, hb1, (SameB.of s1).trans s2⟩ ?_ ?_
  · rintro i σ H2 hi ⟨pe, L, E, kv, lv, rfl, yw, hp1, hpe, n1e, npe, hb2, s3⟩
    have hi2 : i < 26 := by simp at hi; omega
    have hll := yw.ll
    have hel := yw.el
    refine ⟨_, rfl, .inl ⟨rfl, _, SqL.of hp1⟩, ?_⟩
    (repeat (first | refine ⟨_, rfl, ?_⟩ | refine ⟨_, _, rfl, rfl, ?_⟩ | refine ⟨rfl, ?_⟩ | refine And.intro (by first | decide | omega | assumption | exact Nat.le_of_ble_eq_true rfl | exact .inl ⟨by decide, by decide⟩ | exact .inr ⟨by decide, by decide⟩ | exact ⟨by decide, by decide⟩ | exact ⟨by omega, by omega⟩) ?_))
    refine ⟨p1, _, rfl, .inl (SqL.of hp1), b, _, rfl, hb2, by rw [sgs_len]; omega, by rw [sgs_len]; omega, fun r H3 hr3 hb3 s4 => ?_⟩
    rw [sgs_len] at hr3
    have hr4 : r < L.length := by omega
    have hp1' := s4 _ _ hp1 bp1
    have hpe' := s4 _ _ hpe (hb.ne npe)
    refine ⟨p1, _, _, r, _, rfl, rfl, hp1', by omega, by omega, by rw [sgs_len, seqIndex_of (by omega) (by omega), Int.toNat_natCast], sgs_at hr4, ?_⟩
    rw [sgs_erase]
    have hlt : Lt L[r] := .inl (yw.sm _ (List.getElem_mem hr4))
    have hpe2 : (upd H3 p1 (.lst (sgs (L.eraseIdx r)))) pe = some (.lst (sgs E)) := by rw [upd_ne (Ne.symm n1e)]; exact hpe'
    (repeat (first | refine ⟨_, rfl, ?_⟩ | refine ⟨_, _, rfl, rfl, ?_⟩ | refine ⟨rfl, ?_⟩ | refine And.intro (by first | decide | omega | assumption | exact Nat.le_of_ble_eq_true rfl | exact .inl ⟨by decide, by decide⟩ | exact .inr ⟨by decide, by decide⟩ | exact ⟨by decide, by decide⟩ | exact ⟨by omega, by omega⟩) ?_))
    intro p3 n3
    have e3 : pe ≠ p3 := ne_of_none hpe2 n3
    refine ⟨pe, p3, _, _, rfl, rfl, by rw [upd_ne e3]; exact hpe2, upd_same, by rw [sgs_len]; show E.length + 2 <= _; omega, fun p4 n4 => ?_⟩
    have n3' : H p3 = none := ((s3.trans s4).updN n1).none n3 (hb3.updN bp1 |>.ne n3)
    have bx3 := (hb3.updN (o := .lst (sgs (L.eraseIdx r))) bp1).updN (o := .lst [V.str (S [L[r]]), V.str (S [ctr L[r]])]) (hb.ne n3')
    have sx3 := ((s3.trans s4).updN (o := .lst (sgs (L.eraseIdx r))) n1).updN (o := .lst [V.str (S [L[r]]), V.str (S [ctr L[r]])]) n3'
    have n4' : H p4 = none := sx3.none n4 (bx3.ne n4)
    have h14 : p1 ≠ p4 := fun z => by rw [<- z] at n4; by_cases z3 : p1 = p3 <;> simp [upd, z3] at n4
    have h13 : p1 ≠ p3 := fun z => by rw [<- z, upd_same] at n3; cases n3
    refine ⟨p4, L.eraseIdx r, E ++ [L[r], ctr L[r]], _, _, rfl, yw.turn hi2 hr4, by rw [upd_ne h14, upd_ne h13, upd_same], ?_, h14, n4', bx3.updN (hb.ne n4'), sx3.updN n4'⟩
    rw [upd_same, <- sgs_app]
    rfl
  · rintro σ H2 ⟨pe, L, E, kv, lv, rfl, yw, hp1, hpe, n1e, npe, hb2, s3⟩
    have hel := yw.el
    have hbe := hb.ne npe
    (repeat (first | refine ⟨_, rfl, ?_⟩ | refine ⟨_, _, rfl, rfl, ?_⟩ | refine ⟨rfl, ?_⟩ | refine And.intro (by first | decide | omega | assumption | exact Nat.le_of_ble_eq_true rfl | exact .inl ⟨by decide, by decide⟩ | exact .inr ⟨by decide, by decide⟩ | exact ⟨by decide, by decide⟩ | exact ⟨by omega, by omega⟩) ?_))
    refine ⟨fun m σ H' => ∃ F E' : List Nat, σ = [some (.ref b), some (.int few), some (.int top), some (.ref p1), some (.ref pe), kv, lv, some (.str (S F))] /\ m = E'.length /\ (F ++ E').Perm E /\ H' pe = some (.lst (sgs E')) /\ BoxAt H' b /\ SameB b H H', ⟨_, [], E, rfl, rfl, List.Perm.refl _, hpe, hb2, s3⟩, ?_⟩
    rintro m σ H3 ⟨F, E', rfl, rfl, hpm, hpe3, hb3, s4⟩
    have hlen := hpm.length_eq
    rw [List.length_append] at hlen
    have hn2 : (few : Int) + n <= 9 := by omega
    have hE26 : E.length <= 100 := by rw [hel]; omega
    (repeat (first | refine ⟨_, rfl, ?_⟩ | refine ⟨_, _, rfl, rfl, ?_⟩ | refine ⟨rfl, ?_⟩ | refine And.intro (by first | decide | omega | assumption | exact Nat.le_of_ble_eq_true rfl | exact .inl ⟨by decide, by decide⟩ | exact .inr ⟨by decide, by decide⟩ | exact ⟨by decide, by decide⟩ | exact ⟨by omega, by omega⟩) ?_))
    refine ⟨pe, _, rfl, .inl (SqL.of hpe3), _, _, rfl, rfl, _, rfl, ite2 (fun e => ?_) (fun e => ?_)⟩
    · have e' : (0 : Int) < ((sgs E').length : Nat) := of_decide_eq_true e
      rw [sgs_len] at e'
      refine ⟨_, rfl, _, rfl, .inl ⟨rfl, _, SqL.of hpe3⟩, ?_⟩
      (repeat (first | refine ⟨_, rfl, ?_⟩ | refine ⟨_, _, rfl, rfl, ?_⟩ | refine ⟨rfl, ?_⟩ | refine And.intro (by first | decide | omega | assumption | exact Nat.le_of_ble_eq_true rfl | exact .inl ⟨by decide, by decide⟩ | exact .inr ⟨by decide, by decide⟩ | exact ⟨by decide, by decide⟩ | exact ⟨by omega, by omega⟩) ?_))
      refine ⟨pe, _, rfl, .inl (SqL.of hpe3), b, _, rfl, hb3, by rw [sgs_len]; omega, by rw [sgs_len]; omega, fun r H4 hr4 hb4 s5 => ?_⟩
      rw [sgs_len] at hr4
      have hr5 : r < E'.length := by omega
      refine ⟨pe, _, _, r, _, rfl, rfl, s5 _ _ hpe3 hbe, by omega, by omega, by rw [sgs_len, seqIndex_of (by omega) (by omega), Int.toNat_natCast], sgs_at hr5, ?_⟩
      rw [sgs_erase]
      have hp := erase_perm (List.getElem?_eq_getElem hr5)
      have hpl := hp.length_eq
      rw [List.length_cons] at hpl
      refine ⟨F, _, rfl, rfl, by show F.length + 1 <= _; omega, (E'.eraseIdx r).length, by omega, F ++ [E'[r]], E'.eraseIdx r, rfl, rfl, ?_, upd_same, hb4.updN hbe, (s4.trans s5).updN npe⟩
      rw [List.append_assoc]
      exact (List.Perm.append_left F hp).trans hpm
    · have e' : E' = [] := by
        cases E' with
        | nil => rfl
        | cons c r => exact absurd (decide_eq_true (by rw [sgs_len]; show (0 : Int) < ((r.length + 1 : Nat) : Int); omega)) e
      subst e'
      rw [List.append_nil] at hpm
      have hl2 := hpm.length_eq
      refine ⟨_, rfl, q F H3 (yw.yd.perm hpm.symm) ?_ ?_ hb3 s4⟩
      · rw [hl2, hel]; omega
      · rw [hl2, hel]; omega
theorem ok_Lword : FnOk P w K mg base CX0 2 f10 d10 ["_law_box_here", "_law_yard_here", "_law_top"] (sp_Lword K) := by
  have G_Ltake := ok_Ltake (P := P) (w := w) (base := base) T
  refine T.F10.fn.ok sc_Lword (fun vs H Q E h => len_Lword h) (fun cdv A outer s H vs Q E hr h => ?_)
  refine ⟨_, (pss_one (ps_ret (pe_bmK K rfl PySem.F.plainAttrs_str PySem.F.slot_str_join PySem.F.type_str_join (mt_joinK K rfl) (pe_S [] (by decide +kernel)) (pa_cons (pe_compB ["_law_k", "_law_yard_here", "_law_box_here"] [none, some 1, some 0] (pi_range1 rfl T.z_range (pa_cons (pe_call G_Ltake (hr.mono (by decide)) rfl T.F7.mg T.F7.fn.kp T.F7.bd .nil pass0 (pa_cons (pv 0) (pa_cons (pe_op op_add (pv 2) pe_int) pa_nil))) pa_nil)) ⟨⟨rfl, rfl, by first | exact .inl rfl | exact .inr rfl⟩, ⟨⟨rfl, rfl, by first | exact .inl rfl | exact .inr rfl⟩, trivial⟩⟩ (fun _ _ _ _ => (pg_name (i := 0) (by decide +kernel : List.Nodup (["_law_k", "_law_yard_here", "_law_box_here"] : List Str)) rfl (Or.inl rfl))) (fun _ _ _ _ => pf_nil) (fun _ _ _ _ => (pe_ix ix_S (pv 1) (pe_call G_Ltake (hr.mono (by decide)) rfl T.F7.mg T.F7.fn.kp T.F7.bd .nil pass0 (pa_cons (pv 2) (pa_cons (pe_callB call_lenS rfl T.z_len PySem.boot_len (pa_cons (pv 1) pa_nil)) pa_nil))) (fun _ _ => rfl)))) pa_nil)))), ?_⟩
  obtain ⟨b, y, top, rfl, hb, hy, hyl, ht, q⟩ := h
  have hs : (100000 : Nat) < sizeLine := by decide
  (repeat (first | refine ⟨_, rfl, ?_⟩ | refine ⟨_, _, rfl, rfl, ?_⟩ | refine ⟨rfl, ?_⟩ | refine And.intro (by first | decide | omega | assumption | exact Nat.le_of_ble_eq_true rfl | exact .inl ⟨by decide, by decide⟩ | exact .inr ⟨by decide, by decide⟩ | exact ⟨by decide, by decide⟩ | exact ⟨by omega, by omega⟩) ?_))
  refine ⟨b, _, rfl, hb, by omega, by omega, fun n H1 hn hb1 s1 => ?_⟩
  (repeat (first | refine ⟨_, rfl, ?_⟩ | refine ⟨_, _, rfl, rfl, ?_⟩ | refine ⟨rfl, ?_⟩ | refine And.intro (by first | decide | omega | assumption | exact Nat.le_of_ble_eq_true rfl | exact .inl ⟨by decide, by decide⟩ | exact .inr ⟨by decide, by decide⟩ | exact ⟨by decide, by decide⟩ | exact ⟨by omega, by omega⟩) ?_))
  refine comp_rng (fun i acc H' => BoxAt H' b /\ SameB b H H' /\ ∃ l : List Nat, acc = sgs l /\ l.length = i /\ ∀ c ∈ l, c ∈ y) (by simp; omega) ⟨hb1, s1, [], rfl, rfl, by simp⟩ ?_ ?_
  · rintro i acc H2 Nx hi hl ⟨hb2, s2, l, rfl, hl2, hm⟩ nx
    have hpos : 0 < y.length := List.length_pos_iff.mpr hy
    refine ⟨⟨rfl, rfl, trivial⟩, yes_ite ?_⟩
    (repeat (first | refine ⟨_, rfl, ?_⟩ | refine ⟨_, _, rfl, rfl, ?_⟩ | refine ⟨rfl, ?_⟩ | refine And.intro (by first | decide | omega | assumption | exact Nat.le_of_ble_eq_true rfl | exact .inl ⟨by decide, by decide⟩ | exact .inr ⟨by decide, by decide⟩ | exact ⟨by decide, by decide⟩ | exact ⟨by omega, by omega⟩) ?_))
    refine ⟨b, _, rfl, hb2, by omega, by omega, fun r H3 hr3 hb3 s3 => ?_⟩
    have hr4 : r < y.length := by omega
    refine ⟨y, _, y[r], rfl, rfl, by omega, atI_nat (List.getElem?_eq_getElem hr4), ?_⟩
    refine nx _ _ (by simpa using hl) ⟨hb3, s2.trans s3, l ++ [y[r]], sgs_snoc _ _, by simp [hl2], fun c hc => ?_⟩
    rcases List.mem_append.mp hc with z | z
    · exact hm c z
    · rw [List.mem_singleton.mp z]; exact List.getElem_mem hr4
  · rintro acc H2 D hl ⟨hb2, s2, l, rfl, hl2, hm⟩ hD
    have hl3 : l.length <= top := by simp at hl2; omega
    refine ⟨D, l.map fun c => [c], rfl, rfl, SqL.of ?_, ?_, ?_⟩
    · rw [upd_same, <- sgs_lists]
    · rw [sum1]; omega
    · rw [flat1]
      exact q l _ hm hl3 (hb2.same (Same.upd hD)) (s2.trans (SameB.of (Same.upd hD)))
theorem ok_Lwords : FnOk P w K mg base CX0 3 f14 d14 ["_law_box_here", "_law_yard_here"] (sp_Lwords K) := by
  have G_Ltake := ok_Ltake (P := P) (w := w) (base := base) T
  have G_Lword := ok_Lword (P := P) (w := w) (base := base) T
  refine T.F14.fn.ok sc_Lwords (fun vs H Q E h => len_Lwords h) (fun cdv A outer s H vs Q E hr h => ?_)
  refine ⟨_, (pss_cons (ps_set (i := 2) sc_Lwords.nd rfl (Or.inl rfl) pe_int)
      (pss_cons (ps_set (i := 3) sc_Lwords.nd rfl (Or.inl rfl) (pe_lst pa_nil))
      (pss_cons (ps_for PassesOwn.never rfl (pi_range1 rfl T.z_range (pa_cons (pe_call G_Ltake (hr.mono (by decide)) rfl T.F7.mg T.F7.fn.kp T.F7.bd .nil pass0 (pa_cons (pv 0) (pa_cons pe_int pa_nil))) pa_nil)) (pg_name (i := 4) sc_Lwords.nd rfl (Or.inl rfl)) (pss_cons (ps_set (i := 5) sc_Lwords.nd rfl (Or.inl rfl) (pe_call G_Lword (hr.mono (by decide)) rfl T.F10.mg T.F10.fn.kp T.F10.bd .nil pass0 (pa_cons (pv 0) (pa_cons (pv 1) (pa_cons (pe_callB (call_min2 rfl) rfl T.z_min boot_min (pa_cons (pv 2) (pa_cons (pe_ix (ix_listK K rfl) (pe_lst (pa_cons pe_int (pa_cons pe_int (pa_cons pe_int pa_nil)))) (pe_call G_Ltake (hr.mono (by decide)) rfl T.F7.mg T.F7.fn.kp T.F7.bd .nil pass0 (pa_cons (pv 0) (pa_cons pe_int pa_nil))) (fun _ _ => rfl)) pa_nil))) pa_nil)))))
      (pss_cons (ps_set (i := 2) sc_Lwords.nd rfl (Or.inl rfl) (pe_op op_sub (pv 2) (pe_callB call_lenS rfl T.z_len PySem.boot_len (pa_cons (pv 5) pa_nil))))
      (pss_one (ps_expr (pe_bmK K rfl PySem.F.plainAttrs_list PySem.F.slot_list_append PySem.F.type_list_append mt_append (pv 3) (pa_cons (pv 5) pa_nil)))))))
      (pss_one (ps_ret (pe_callTy (call_tuple_ofK K rfl) rfl T.z_tuple boot_tuple (pa_cons (pv 3) pa_nil))))))), ?_⟩
  obtain ⟨b, y, rfl, hb, hyn, hz, q⟩ := h
  have hs : (100000 : Nat) < sizeLine := by decide
  (repeat (first | refine ⟨_, rfl, ?_⟩ | refine ⟨_, _, rfl, rfl, ?_⟩ | refine ⟨_, _, _, rfl, rfl, by first | assumption | omega, by assumption, ?_⟩ | refine ⟨rfl, ?_⟩ | refine And.intro (by first | decide | omega | assumption | exact Nat.le_of_ble_eq_true rfl | exact .inl ⟨by decide, by decide⟩ | exact .inr ⟨by decide, by decide⟩ | exact ⟨by decide, by decide⟩ | exact ⟨by omega, by omega⟩) ?_))
  intro p1 n1
  have bp1 : p1 ≠ b := hb.ne n1
  (repeat (first | refine ⟨_, rfl, ?_⟩ | refine ⟨_, _, rfl, rfl, ?_⟩ | refine ⟨_, _, _, rfl, rfl, by first | assumption | omega, by assumption, ?_⟩ | refine ⟨rfl, ?_⟩ | refine And.intro (by first | decide | omega | assumption | exact Nat.le_of_ble_eq_true rfl | exact .inl ⟨by decide, by decide⟩ | exact .inr ⟨by decide, by decide⟩ | exact ⟨by decide, by decide⟩ | exact ⟨by omega, by omega⟩) ?_))
  refine ⟨b, 5, rfl, hb.same (Same.upd n1), by decide, by decide, fun n H1 hn hb1 s1 => ?_⟩
  (repeat (first | refine ⟨_, rfl, ?_⟩ | refine ⟨_, _, rfl, rfl, ?_⟩ | refine ⟨_, _, _, rfl, rfl, by first | assumption | omega, by assumption, ?_⟩ | refine ⟨rfl, ?_⟩ | refine And.intro (by first | decide | omega | assumption | exact Nat.le_of_ble_eq_true rfl | exact .inl ⟨by decide, by decide⟩ | exact .inr ⟨by decide, by decide⟩ | exact ⟨by decide, by decide⟩ | exact ⟨by omega, by omega⟩) ?_))
  refine for_range (fun i σ H' => ∃ (ws : List (List Nat)) (lf : Nat) (kv wv : Option V), σ = [some (.ref b), some (.str (S y)), some (.int lf), some (.ref p1), kv, wv] /\ H' p1 = some (.lst (txs ws)) /\ ws.length = i /\ (∀ w ∈ ws, (∀ c ∈ w, c ∈ y) /\ w.length <= 12) /\ lf <= 24 /\ BoxAt H' b /\ SameB b H H')
    ⟨[], 20, none, none, rfl, s1 _ _ upd_same bp1, rfl, fun _ h => absurd h List.not_mem_nil, by decide, hb1, (SameB.of (Same.upd n1)).trans s1⟩ ?_ ?_
  · rintro i σ H2 hi ⟨ws, lf, kv, wv, rfl, hp1, hwl, hw, hlf, hb2, s2⟩
    have hi5 : i < 5 := by omega
    refine ⟨_, rfl, _, rfl, _, rfl, by decide, fun p2 n2 => ?_⟩
    have bp2 : p2 ≠ b := hb2.ne n2
    refine ⟨_, rfl, b, 3, rfl, hb2.same (Same.upd n2), by decide, by decide, fun r H3 hr3 hb3 s3 => ?_⟩
    obtain ⟨v, hv, hv12⟩ : ∃ v : Nat, atI [V.int 3, V.int 6, V.int 12] ((r : Nat) : Int) = some (V.int v) /\ v <= 12 := by
      have h3 : r = 0 \/ r = 1 \/ r = 2 := by omega
      rcases h3 with rfl | rfl | rfl
      · exact ⟨3, atI_nat (xs := [V.int 3, V.int 6, V.int 12]) (j := 0) rfl, by decide⟩
      · exact ⟨6, atI_nat (xs := [V.int 3, V.int 6, V.int 12]) (j := 1) rfl, by decide⟩
      · exact ⟨12, atI_nat (xs := [V.int 3, V.int 6, V.int 12]) (j := 2) rfl, by decide⟩
    refine ⟨p2, _, _, _, rfl, rfl, SqL.of (s3 _ _ upd_same bp2), hv, _, _, rfl, ?_⟩
    obtain ⟨top, ht, ht1, ht2⟩ : ∃ top : Nat, (if (v : Int) < (lf : Int) then (v : Int) else (lf : Int)) = (top : Int) /\ top <= lf /\ top <= 12 := by
      split
      · exact ⟨v, rfl, by omega, hv12⟩
      · exact ⟨lf, rfl, Nat.le_refl _, by omega⟩
    rw [ht]
    refine ⟨b, y, top, rfl, hb3, hyn, by omega, by omega, fun w H4 hwm hwz hb4 s4 => ?_⟩
    have s24 : SameB b H2 H4 := ((SameB.of (Same.upd n2)).trans s3).trans s4
    have hp4 := s24 _ _ hp1 bp1
    refine ⟨_, rfl, _, rfl, w, rfl, by omega, _, _, rfl, rfl, ?_⟩
    refine ⟨_, rfl, .inl ⟨rfl, _, SqL.of hp4⟩, _, rfl, p1, _, _, rfl, rfl, hp4, by rw [txs_len]; omega, ?_⟩
    rw [txs_snoc]
    have elf : ((lf : Int) - (w.length : Int)) = ((lf - w.length : Nat) : Int) := by omega
    refine ⟨ws ++ [w], lf - w.length, _, _, by rw [<- elf]; rfl, upd_same, by simp [hwl], fun u hu => ?_, by omega, hb4.updN bp1, (s2.trans s24).updN n1⟩
    rcases List.mem_append.mp hu with z | z
    · exact hw u z
    · rw [List.mem_singleton.mp z]; exact ⟨hwm, by omega⟩
  · rintro σ H2 ⟨ws, lf, kv, wv, rfl, hp1, hwl, hw, hlf, hb2, s2⟩
    refine ⟨_, rfl, p1, _, rfl, .inl ⟨SqL.of hp1, fun t nt => ?_⟩⟩
    have nt0 : H t = none := s2.none nt (hb2.ne nt)
    exact q t ws _ nt0 (hb.ne nt0) upd_same ⟨by omega, hw⟩ (hb2.updN (hb.ne nt0)) (s2.updN nt0)
theorem ok_Lorder : FnOk P w K mg base CX0 2 f11 d11 ["_law_box_here", "_law_things"] (sp_Lorder K) := by
  have G_Ltake := ok_Ltake (P := P) (w := w) (base := base) T
  refine T.F11.fn.ok sc_Lorder (fun vs H Q E h => len_Lorder h) (fun cdv A outer s H vs Q E hr h => ?_)
  refine ⟨_, (pss_cons (ps_set (i := 2) sc_Lorder.nd rfl (Or.inl rfl) (pe_callTy (call_listAny K rfl rfl) rfl T.z_list boot_list (pa_cons (pv 1) pa_nil)))
      (pss_cons (ps_set (i := 3) sc_Lorder.nd rfl (Or.inl rfl) (pe_lst pa_nil))
      (pss_cons (ps_whileN PassesOwn.never (pt_cmpR op_gt (pe_callB (call_len_seqK K rfl) rfl T.z_len PySem.boot_len (pa_cons (pv 2) pa_nil)) pe_int (nomark _)) (pss_one (ps_expr (pe_bmK K rfl PySem.F.plainAttrs_list PySem.F.slot_list_append PySem.F.type_list_append mt_append (pv 3) (pa_cons (pe_bmK K rfl PySem.F.plainAttrs_list PySem.F.slot_list_pop PySem.F.type_list_pop mt_popAt (pv 2) (pa_cons (pe_call G_Ltake (hr.mono (by decide)) rfl T.F7.mg T.F7.fn.kp T.F7.bd .nil pass0 (pa_cons (pv 0) (pa_cons (pe_callB (call_len_seqK K rfl) rfl T.z_len PySem.boot_len (pa_cons (pv 2) pa_nil)) pa_nil))) pa_nil)) pa_nil)))))
      (pss_one (ps_ret (pv 3)))))), ?_⟩
  obtain ⟨b, x, ys, rfl, hb, hx, hz, q⟩ := h
  have hs : (100000 : Nat) < sizeLine := by decide
  rcases hx with ⟨p, rfl, hp⟩ | ⟨l, rfl, rfl⟩
  · refine ⟨_, rfl, .inr ⟨p, _, rfl, hp, fun p1 n1 => ?_⟩⟩
    (repeat (first | refine ⟨_, rfl, ?_⟩ | refine ⟨_, _, rfl, rfl, ?_⟩ | refine ⟨_, _, _, rfl, rfl, by first | assumption | omega, by assumption, ?_⟩ | refine ⟨rfl, ?_⟩ | refine And.intro (by first | decide | omega | assumption | exact Nat.le_of_ble_eq_true rfl | exact .inl ⟨by decide, by decide⟩ | exact .inr ⟨by decide, by decide⟩ | exact ⟨by decide, by decide⟩ | exact ⟨by omega, by omega⟩) ?_))
    intro p2 n2
    have s1 : Same H (upd (upd H p1 (.lst ys)) p2 (.lst [])) := (Same.upd n1).trans (Same.upd n2)
    have bp1 : p1 ≠ b := hb.ne n1
    have np2 : H p2 = none := Same.free (Same.upd n1) n2
    have bp2 : p2 ≠ b := hb.ne np2
    have p12 : p1 ≠ p2 := fun z => by rw [<- z, upd_same] at n2; cases n2
    refine ⟨fun m σ H' => ∃ F E' : List V, σ = [some (.ref b), some (.ref p), some (.ref p1), some (.ref p2)] /\ m = E'.length /\ (F ++ E').Perm ys /\ H' p1 = some (.lst E') /\ H' p2 = some (.lst F) /\ BoxAt H' b /\ SameB b H H', ⟨_, [], ys, rfl, rfl, List.Perm.refl _, by rw [upd_ne p12, upd_same], upd_same, hb.same s1, SameB.of s1⟩, ?_⟩
    rintro m σ H3 ⟨F, E', rfl, rfl, hpm, hp1, hp2, hb3, s4⟩
    have hlen := hpm.length_eq
    rw [List.length_append] at hlen
    (repeat (first | refine ⟨_, rfl, ?_⟩ | refine ⟨_, _, rfl, rfl, ?_⟩ | refine ⟨_, _, _, rfl, rfl, by first | assumption | omega, by assumption, ?_⟩ | refine ⟨rfl, ?_⟩ | refine And.intro (by first | decide | omega | assumption | exact Nat.le_of_ble_eq_true rfl | exact .inl ⟨by decide, by decide⟩ | exact .inr ⟨by decide, by decide⟩ | exact ⟨by decide, by decide⟩ | exact ⟨by omega, by omega⟩) ?_))
    refine ⟨p1, _, rfl, .inl (SqL.of hp1), _, _, rfl, rfl, _, rfl, ite2 (fun e => ?_) (fun e => ?_)⟩
    · have e' : (0 : Int) < (E'.length : Nat) := of_decide_eq_true e
      refine ⟨_, rfl, .inl ⟨rfl, _, SqL.of hp2⟩, _, rfl, .inl ⟨rfl, _, SqL.of hp1⟩, ?_⟩
      (repeat (first | refine ⟨_, rfl, ?_⟩ | refine ⟨_, _, rfl, rfl, ?_⟩ | refine ⟨_, _, _, rfl, rfl, by first | assumption | omega, by assumption, ?_⟩ | refine ⟨rfl, ?_⟩ | refine And.intro (by first | decide | omega | assumption | exact Nat.le_of_ble_eq_true rfl | exact .inl ⟨by decide, by decide⟩ | exact .inr ⟨by decide, by decide⟩ | exact ⟨by decide, by decide⟩ | exact ⟨by omega, by omega⟩) ?_))
      refine ⟨p1, _, rfl, .inl (SqL.of hp1), b, _, rfl, hb3, by omega, by omega, fun r H4 hr4 hb4 s5 => ?_⟩
      have hr5 : r < E'.length := by omega
      refine ⟨p1, _, _, r, _, rfl, rfl, s5 _ _ hp1 bp1, by omega, by omega, by rw [seqIndex_of (by omega) (by omega), Int.toNat_natCast], List.getElem?_eq_getElem hr5, ?_⟩
      have hpe := erase_perm (List.getElem?_eq_getElem hr5)
      have hpl := hpe.length_eq
      rw [List.length_cons] at hpl
      refine ⟨p2, _, _, rfl, rfl, by rw [upd_ne (Ne.symm p12)]; exact s5 _ _ hp2 bp2, by omega, ?_⟩
      refine ⟨(E'.eraseIdx r).length, by omega, F ++ [E'[r]], E'.eraseIdx r, rfl, rfl, ?_, by rw [upd_ne p12, upd_same], upd_same, (hb4.updN bp1).updN bp2, ((s4.trans s5).updN n1).updN np2⟩
      rw [List.append_assoc]
      exact (List.Perm.append_left F hpe).trans hpm
    · have e' : E' = [] := by
        cases E' with
        | nil => rfl
        | cons c r => exact absurd (decide_eq_true (by show (0 : Int) < ((r.length + 1 : Nat) : Int); omega)) e
      subst e'
      rw [List.append_nil] at hpm
      exact ⟨_, rfl, q p2 F H3 np2 bp2 hp2 hpm hb3 s4⟩
  · rw [sgs_len] at hz
    refine ⟨_, rfl, .inl ⟨l, rfl, by omega, fun p1 n1 => ?_⟩⟩
    rw [<- sgs_len l] at hz
    generalize sgs l = ys at *
    (repeat (first | refine ⟨_, rfl, ?_⟩ | refine ⟨_, _, rfl, rfl, ?_⟩ | refine ⟨_, _, _, rfl, rfl, by first | assumption | omega, by assumption, ?_⟩ | refine ⟨rfl, ?_⟩ | refine And.intro (by first | decide | omega | assumption | exact Nat.le_of_ble_eq_true rfl | exact .inl ⟨by decide, by decide⟩ | exact .inr ⟨by decide, by decide⟩ | exact ⟨by decide, by decide⟩ | exact ⟨by omega, by omega⟩) ?_))
    intro p2 n2
    have s1 : Same H (upd (upd H p1 (.lst ys)) p2 (.lst [])) := (Same.upd n1).trans (Same.upd n2)
    have bp1 : p1 ≠ b := hb.ne n1
    have np2 : H p2 = none := Same.free (Same.upd n1) n2
    have bp2 : p2 ≠ b := hb.ne np2
    have p12 : p1 ≠ p2 := fun z => by rw [<- z, upd_same] at n2; cases n2
    refine ⟨fun m σ H' => ∃ F E' : List V, σ = [some (.ref b), some (.str (S l)), some (.ref p1), some (.ref p2)] /\ m = E'.length /\ (F ++ E').Perm ys /\ H' p1 = some (.lst E') /\ H' p2 = some (.lst F) /\ BoxAt H' b /\ SameB b H H', ⟨_, [], ys, rfl, rfl, List.Perm.refl _, by rw [upd_ne p12, upd_same], upd_same, hb.same s1, SameB.of s1⟩, ?_⟩
    rintro m σ H3 ⟨F, E', rfl, rfl, hpm, hp1, hp2, hb3, s4⟩
    have hlen := hpm.length_eq
    rw [List.length_append] at hlen
    (repeat (first | refine ⟨_, rfl, ?_⟩ | refine ⟨_, _, rfl, rfl, ?_⟩ | refine ⟨_, _, _, rfl, rfl, by first | assumption | omega, by assumption, ?_⟩ | refine ⟨rfl, ?_⟩ | refine And.intro (by first | decide | omega | assumption | exact Nat.le_of_ble_eq_true rfl | exact .inl ⟨by decide, by decide⟩ | exact .inr ⟨by decide, by decide⟩ | exact ⟨by decide, by decide⟩ | exact ⟨by omega, by omega⟩) ?_))
    refine ⟨p1, _, rfl, .inl (SqL.of hp1), _, _, rfl, rfl, _, rfl, ite2 (fun e => ?_) (fun e => ?_)⟩
    · have e' : (0 : Int) < (E'.length : Nat) := of_decide_eq_true e
      refine ⟨_, rfl, .inl ⟨rfl, _, SqL.of hp2⟩, _, rfl, .inl ⟨rfl, _, SqL.of hp1⟩, ?_⟩
      (repeat (first | refine ⟨_, rfl, ?_⟩ | refine ⟨_, _, rfl, rfl, ?_⟩ | refine ⟨_, _, _, rfl, rfl, by first | assumption | omega, by assumption, ?_⟩ | refine ⟨rfl, ?_⟩ | refine And.intro (by first | decide | omega | assumption | exact Nat.le_of_ble_eq_true rfl | exact .inl ⟨by decide, by decide⟩ | exact .inr ⟨by decide, by decide⟩ | exact ⟨by decide, by decide⟩ | exact ⟨by omega, by omega⟩) ?_))
      refine ⟨p1, _, rfl, .inl (SqL.of hp1), b, _, rfl, hb3, by omega, by omega, fun r H4 hr4 hb4 s5 => ?_⟩
      have hr5 : r < E'.length := by omega
      refine ⟨p1, _, _, r, _, rfl, rfl, s5 _ _ hp1 bp1, by omega, by omega, by rw [seqIndex_of (by omega) (by omega), Int.toNat_natCast], List.getElem?_eq_getElem hr5, ?_⟩
      have hpe := erase_perm (List.getElem?_eq_getElem hr5)
      have hpl := hpe.length_eq
      rw [List.length_cons] at hpl
      refine ⟨p2, _, _, rfl, rfl, by rw [upd_ne (Ne.symm p12)]; exact s5 _ _ hp2 bp2, by omega, ?_⟩
      refine ⟨(E'.eraseIdx r).length, by omega, F ++ [E'[r]], E'.eraseIdx r, rfl, rfl, ?_, by rw [upd_ne p12, upd_same], upd_same, (hb4.updN bp1).updN bp2, ((s4.trans s5).updN n1).updN np2⟩
      rw [List.append_assoc]
      exact (List.Perm.append_left F hpe).trans hpm
    · have e' : E' = [] := by
        cases E' with
        | nil => rfl
        | cons c r => exact absurd (decide_eq_true (by show (0 : Int) < ((r.length + 1 : Nat) : Int); omega)) e
      subst e'
      rw [List.append_nil] at hpm
      exact ⟨_, rfl, q p2 F H3 np2 bp2 hp2 hpm hb3 s4⟩
theorem ok_Ldrawing : FnOk P w K mg base CX0 3 f13 d13 ["_law_box_here", "_law_yard_here", "_law_words_here"] (sp_Ldrawing K) := by
  have G_Lbands := ok_Lbands (P := P) (w := w) (base := base) T
  have G_Lother := ok_Lother (P := P) (w := w) (base := base) T
  have G_Lorder := ok_Lorder (P := P) (w := w) (base := base) T
  refine T.F13.fn.ok sc_Ldrawing (fun vs H Q E h => len_Ldrawing h) (fun cdv A outer s H vs Q E hr h => ?_)
  refine ⟨_, (pss_cons (ps_set (i := 3) sc_Ldrawing.nd rfl (Or.inl rfl) (pe_lst pa_nil))
      (pss_cons (ps_for PassesOwn.never rfl (pi_listK K rfl (pe_call G_Lbands (hr.mono (by decide)) rfl T.F12.mg T.F12.fn.kp T.F12.bd .nil pass0 (pa_cons (pv 1) pa_nil))) (pg_name (i := 4) sc_Ldrawing.nd rfl (Or.inr rfl)) (pss_cons (ps_set (i := 5) sc_Ldrawing.nd rfl (Or.inl rfl) (pe_lst pa_nil))
      (pss_cons (ps_for PassesOwn.never rfl (pi_enumT K rfl rfl T.z_enumerate (pa_cons (pv 2) pa_nil)) (pg_tupK (n := 2) K rfl rfl (pgs_cons (pg_name (i := 6) sc_Ldrawing.nd rfl (Or.inr rfl)) (pgs_cons (pg_name (i := 7) sc_Ldrawing.nd rfl (Or.inl rfl)) pgs_nil))) (pss_one (ps_expr (pe_bmK K rfl PySem.F.plainAttrs_list PySem.F.slot_list_extend PySem.F.type_list_extend mt_extend (pv 5) (pa_cons (pe_compB ["_law_i", "_law_letter", "_law_c", "_law_band"] [none, none, some 6, some 4] (pi_enumS rfl T.z_enumerate (pa_cons (pv 7) pa_nil)) ⟨⟨rfl, rfl, by first | exact .inl rfl | exact .inr rfl⟩, ⟨⟨rfl, rfl, by first | exact .inl rfl | exact .inr rfl⟩, trivial⟩⟩ (fun _ _ _ _ => (pg_tupK (n := 2) K rfl rfl (pgs_cons (pg_name (i := 0) (by decide +kernel : List.Nodup (["_law_i", "_law_letter", "_law_c", "_law_band"] : List Str)) rfl (Or.inl rfl)) (pgs_cons (pg_name (i := 1) (by decide +kernel : List.Nodup (["_law_i", "_law_letter", "_law_c", "_law_band"] : List Str)) rfl (Or.inl rfl)) pgs_nil)))) (fun _ _ _ _ => (pf_one (pt_cmpR (op_inK K rfl) (pv 1) (pe_tup (pa_cons (pv 3) (pa_cons (pe_call G_Lother (hr.mono (by decide)) rfl T.F8.mg T.F8.fn.kp T.F8.bd .nil pass0 (pa_cons (pv 3) pa_nil)) pa_nil))) (by with_unfolding_all rfl)))) (fun _ _ _ _ => (pe_tup (pa_cons (pv 2) (pa_cons (pv 0) pa_nil))))) pa_nil)))))
      (pss_one (ps_expr (pe_bmK K rfl PySem.F.plainAttrs_list PySem.F.slot_list_append PySem.F.type_list_append mt_append (pv 3) (pa_cons (pe_callTy (call_tuple_ofK K rfl) rfl T.z_tuple boot_tuple (pa_cons (pe_call G_Lorder (hr.mono (by decide)) rfl T.F11.mg T.F11.fn.kp T.F11.bd .nil pass0 (pa_cons (pv 0) (pa_cons (pv 5) pa_nil))) pa_nil)) pa_nil)))))))
      (pss_one (ps_ret (pe_tup (pa_cons (pe_callTy (call_tuple_ofK K rfl) rfl T.z_tuple boot_tuple (pa_cons (pv 2) pa_nil)) (pa_cons (pe_callTy (call_tuple_ofK K rfl) rfl T.z_tuple boot_tuple (pa_cons (pv 3) pa_nil)) pa_nil))))))), ?_⟩
  obtain ⟨b, y, wt, ws, rfl, hb, hy, hz, hwb, hwt, hw, q⟩ := h
  have hs : (100000 : Nat) < sizeLine := by decide
  have hwf := hw.few
  (repeat (first | refine ⟨_, rfl, ?_⟩ | refine ⟨_, _, rfl, rfl, ?_⟩ | refine ⟨_, _, _, rfl, rfl, by first | assumption | omega, by assumption, ?_⟩ | refine ⟨rfl, ?_⟩ | refine And.intro (by first | decide | omega | assumption | exact Nat.le_of_ble_eq_true rfl | exact .inl ⟨by decide, by decide⟩ | exact .inr ⟨by decide, by decide⟩ | exact ⟨by decide, by decide⟩ | exact ⟨by omega, by omega⟩) ?_))
  intro p1 n1
  have bp1 : p1 ≠ b := hb.ne n1
  have h1w : p1 ≠ wt := Ne.symm (ne_of_none hwt n1)
  refine ⟨_, rfl, y, rfl, by omega, fun p2 l2 H1 n2 hp2 hl2 hw2 s1 => ?_⟩
  rw [smalls_low hy.lt] at hl2
  have el := bsOf_eq hl2 hw2
  subst el
  have n20 : H p2 = none := Same.free (Same.upd n1) n2
  have bp2 : p2 ≠ b := hb.ne n20
  have p12 : p1 ≠ p2 := fun z => by rw [<- z, upd_same] at n2; cases n2
  have s01 : Same H H1 := (Same.upd n1).trans s1
  have hp1 : H1 p1 = some (.lst []) := s1 _ _ upd_same
  have hbl := bsOf_len hy
  refine ⟨p2, rfl, ⟨_, SqL.of hp2⟩, ?_⟩
  refine for_list (K := K) (a := p2) (xs := sgs (bsOf y)) (fun i σ H' => ∃ (os : List Od) (bv sv cv wv : Option V), σ = [some (.ref b), some (.str (S y)), some (.ref wt), some (.ref p1), bv, sv, cv, wv] /\ H' p1 = some (.lst (odv os)) /\ H' p2 = some (.lst (sgs (bsOf y))) /\ os.length = i /\ (∀ o ∈ os, OdOk H' o) /\ (∀ (j : Nat) (o : Od) (c : Nat), os[j]? = some o -> (bsOf y)[j]? = some c -> (o.ps.map Pr.pair).Perm (strAll c ws ws.length)) /\ BoxAt H' b /\ SameB b H H')
    ⟨[], none, none, none, none, rfl, hp1, hp2, rfl, fun _ h => absurd h List.not_mem_nil, fun j o c h => by simp at h, hb.same s01, SameB.of s01⟩ (fun i σ H' _ ⟨_, _, _, _, _, _, _, h, _⟩ => SqL.of h) ?_ ?_
  · rintro i x σ H2 hx ⟨os, bv, sv, cv, wv, rfl, hp1, hp2, hol, hod, hos, hb2, s2⟩
    obtain ⟨band, hband, rfl⟩ := sgs_get hx
    have hi : i < (bsOf y).length := (List.getElem?_eq_some_iff.mp hband).1
    have hbl2 : Lt band := hy.lt band (List.mem_filter.mp ((bsOf_perm y).mem_iff.mp (List.mem_of_getElem? hband))).1
    (repeat (first | refine ⟨_, rfl, ?_⟩ | refine ⟨_, _, rfl, rfl, ?_⟩ | refine ⟨_, _, _, rfl, rfl, by first | assumption | omega, by assumption, ?_⟩ | refine ⟨rfl, ?_⟩ | refine And.intro (by first | decide | omega | assumption | exact Nat.le_of_ble_eq_true rfl | exact .inl ⟨by decide, by decide⟩ | exact .inr ⟨by decide, by decide⟩ | exact ⟨by decide, by decide⟩ | exact ⟨by omega, by omega⟩) ?_))
    intro p3 n3
    have hwt2 := s2 _ _ hwt hwb
    refine ⟨_, rfl, wt, rfl, ⟨_, SqT.of ((Same.upd n3) _ _ hwt2)⟩, ?_⟩
    refine for_enumT (K := K) (a := wt) (xs := txs ws) (fun j σ H' => ∃ (ps : List Pr) (cv wv : Option V), σ = [some (.ref b), some (.str (S y)), some (.ref wt), some (.ref p1), some (.str (S [band])), some (.ref p3), cv, wv] /\ H' p3 = some (.lst (prv ps)) /\ (∀ p ∈ ps, PrOk H' p) /\ ps.map Pr.pair = strAll band ws j /\ ps.length <= 12 * j /\ Same H2 H')
      ⟨[], cv, wv, rfl, upd_same, fun _ h => absurd h List.not_mem_nil, rfl, Nat.zero_le _, Same.upd n3⟩ (fun j σ H' _ ⟨_, _, _, _, _, _, _, _, h⟩ => SqT.of (h _ _ hwt2)) ?_ ?_
    · rintro j x σ H3 T hxj ⟨ps, cv3, wv3, rfl, hp3, hps, hpe, hpl, s3⟩ nT
      have hj : j < ws.length := by
        have := (List.getElem?_eq_some_iff.mp hxj).1
        rwa [txs_len] at this
      rw [txs_at hj] at hxj
      cases hxj
      have hjw : ws[j]? = some ws[j] := List.getElem?_eq_getElem hj
      obtain ⟨hwy, hwz⟩ := hw.all _ (List.getElem_mem hj)
      generalize ws[j] = w at hjw hwy hwz ⊢
      refine ⟨T, _, rfl, SqT.of upd_same, rfl, _, _, rfl, _, _, rfl, rfl, ?_⟩
      have s3T := Same.upd (o := .tup [.int j, .str (S w)]) nT
      have hp3T := s3T _ _ hp3
      refine ⟨_, rfl, .inl ⟨rfl, _, SqL.of hp3T⟩, _, rfl, w, rfl, ?_⟩
      refine comp_enum (l := w) (fun m acc H' => Same (upd H3 T (.tup [.int j, .str (S w)])) H' /\ ∃ vs : List Pr, acc = prv vs /\ (∀ p ∈ vs, PrOk H' p) /\ vs.map Pr.pair = strUp band j w m /\ vs.length <= m) (by omega) ⟨Same.refl _, [], rfl, fun _ h => absurd h List.not_mem_nil, rfl, Nat.le_refl _⟩ ?_ ?_
      · rintro m l acc H4 T2 Nx hm hal ⟨s4, vs, rfl, hvs, hve, hvl⟩ nT2 nx
        have hmw : m < w.length := (List.getElem?_eq_some_iff.mp hm).1
        have es := strUp_succ (band := band) (c := j) hm
        rw [show onB band l = (decide (l = band) || decide (l = ctr band)) from rfl] at es
        refine ⟨T2, _, rfl, SqT.of upd_same, rfl, _, _, rfl, _, _, rfl, rfl, ?_⟩
        refine ⟨⟨rfl, rfl, trivial⟩, ?_⟩
        have s4T := Same.upd (o := .tup [.int m, .str (S [l])]) nT2
        refine ⟨_, rfl, _, rfl, _, rfl, band, rfl, hbl2, by show 2 <= sizeLine; decide, fun t nt => ?_⟩
        refine ⟨t, _, rfl, .inr (SqT.of upd_same), rfl, rfl, _, rfl, ?_⟩
        have s4t := s4T.trans (Same.upd (o := .tup [.str (S [band]), .str (S [ctr band])]) nt)
        generalize upd (upd H4 T2 (.tup [.int m, .str (S [l])])) t (.tup [.str (S [band]), .str (S [ctr band])]) = H5 at s4t ⊢
        show if inV (.str (S [l])) [.str (S [band]), .str (S [ctr band])] = true then _ else _
        rw [inV_two]
        refine ite2 (fun z => ?_) (fun z => ?_)
        · rw [if_pos z] at es
          refine ⟨_, rfl, _, rfl, by show 2 <= sizeLine; decide, fun t2 nt2 => ?_⟩
          refine nx _ _ (by simpa using hal) ⟨(s4.trans s4t).trans (Same.upd nt2), vs ++ [⟨t2, j, m⟩], prv_snoc vs ⟨t2, j, m⟩, fun p hp => ?_, by rw [List.map_append, hve, es]; rfl, by rw [List.length_append]; show vs.length + 1 <= _; omega⟩
          rcases List.mem_append.mp hp with g | g
          · exact (hvs p g).same (s4t.trans (Same.upd nt2))
          · have e2 := List.mem_singleton.mp g
            subst e2
            exact ⟨upd_same, by show j < 1000; omega, by show m < 1000; omega⟩
        · rw [if_neg z, List.append_nil] at es
          exact nx _ _ (Nat.le_succ_of_le hal) ⟨s4.trans s4t, vs, rfl, fun p hp => (hvs p hp).same s4t, by rw [es]; exact hve, by omega⟩
      · rintro acc H4 D hal ⟨s4, vs, rfl, hvs, hve, hvl⟩ hD
        have hp4 := s4 _ _ hp3T
        refine ⟨p3, D, _, _, rfl, rfl, (Same.upd hD) _ _ hp4, upd_same, by rw [prv_len, prv_len]; omega, ?_⟩
        rw [prv_app]
        have s34 : Same H3 (upd H4 D (.lst (prv vs))) := (s3T.trans s4).trans (Same.upd hD)
        have hp4D := (Same.upd (o := .lst (prv vs)) hD) _ _ hp4
        have n3H : H2 p3 = none := n3
        refine ⟨ps ++ vs, _, _, rfl, upd_same, fun p hp => ?_, by rw [List.map_append, hpe, hve, strAll_succ hjw], by rw [List.length_append]; omega, fun a o ea => by rw [upd_ne (ne_of_none ea n3H)]; exact s34 _ _ (s3 a o ea)⟩
        rcases List.mem_append.mp hp with g | g
        · exact ((hps p g).same s34).ts (TSame.updL hp4D)
        · exact ((hvs p g).same (Same.upd hD)).ts (TSame.updL hp4D)
    · rintro σ H3 ⟨ps, cv3, wv3, rfl, hp3, hps, hpe, hpl, s3⟩
      rw [txs_len] at hpe hpl
      have hb3 := hb2.same s3
      have b3 : p3 ≠ b := hb2.ne n3
      have hp13 := s3 _ _ hp1
      refine ⟨_, rfl, .inl ⟨rfl, _, SqL.of hp13⟩, ?_⟩
      refine ⟨_, rfl, _, rfl, b, .ref p3, prv ps, rfl, hb3, .inl ⟨p3, rfl, .inl (SqL.of hp3)⟩, by rw [prv_len]; omega, fun qa ys H4 nq qb hq hperm hb4 s4 => ?_⟩
      obtain ⟨ps', e1, e2⟩ := perm_unmap (f := fun p : Pr => V.ref p.t) hperm ps rfl
      have e3 : ys = prv ps' := e1
      subst e3
      have ts34 := TSame.box hb3 s4
      refine ⟨qa, _, rfl, .inl ⟨SqL.of hq, fun t nt => ?_⟩⟩
      have s2t : SameB b H2 (upd H4 t (.tup (prv ps'))) := ((SameB.of s3).trans s4).after (Same.upd nt)
      have hp14 := s2t _ _ hp1 bp1
      have ts4t : TSame H4 (upd H4 t (.tup (prv ps'))) := TSame.updN nt
      refine ⟨p1, _, _, rfl, rfl, hp14, by rw [odv_len]; omega, ?_⟩
      have tsA := (ts34.trans ts4t).trans (TSame.updL (o := .lst (odv os ++ [.ref t])) hp14)
      have hsub : ∀ p ∈ ps', p ∈ ps := fun p hp => e2.mem_iff.mp hp
      have hlen := e2.length_eq
      refine ⟨os ++ [⟨t, ps'⟩], _, _, _, _, rfl, by rw [upd_same]; exact congrArg (fun x => some (HO.lst x)) (odv_snoc os ⟨t, ps'⟩), by rw [upd_ne (Ne.symm p12)]; exact s2t _ _ hp2 bp2, by simp [hol], fun o ho => ?_, fun j o c hj hc => ?_, ?_, ?_⟩
      · rcases List.mem_append.mp ho with g | g
        · exact ((hod o g).same s3).ts tsA
        · have eo := List.mem_singleton.mp g
          subst eo
          refine ⟨?_, fun p hp => (hps p (hsub p hp)).ts tsA, by show ps'.length <= 100; omega⟩
          exact (TSame.updL (o := .lst (odv os ++ [.ref t])) hp14) _ _ upd_same
      · by_cases hlt : j < os.length
        · rw [List.getElem?_append_left hlt] at hj
          exact hos j o c hj hc
        · have hj2 : j = os.length := by
            have := (List.getElem?_eq_some_iff.mp hj).1
            rw [List.length_append] at this
            have : j < os.length + 1 := this
            omega
          subst hj2
          rw [List.getElem?_append_right (Nat.le_refl _), Nat.sub_self] at hj
          have eo : (⟨t, ps'⟩ : Od) = o := by simpa using hj
          rw [hol, hband] at hc
          have ec : band = c := Option.some.inj hc
          subst eo
          subst ec
          exact (e2.map Pr.pair).trans (by rw [hpe])
      · exact ((hb4.same (Same.upd nt)).updN bp1)
      · exact (s2.trans s2t).updN n1
  · rintro σ H2 ⟨os, bv, sv, cv, wv, rfl, hp1, hp2, hol, hod, hos, hb2, s2⟩
    rw [sgs_len] at hol
    have hwt2 := s2 _ _ hwt hwb
    refine ⟨_, rfl, wt, _, rfl, .inr ⟨SqT.of hwt2, ?_⟩⟩
    refine ⟨_, rfl, p1, _, rfl, .inl ⟨SqL.of hp1, fun t nt => ?_⟩⟩
    refine ⟨by show 2 <= sizeLine; decide, fun dr ndr => ?_⟩
    have nt0 : H t = none := s2.none nt (hb2.ne nt)
    have sA : Same H2 (upd (upd H2 t (.tup (odv os))) dr (.tup [.ref wt, .ref t])) := (Same.upd nt).trans (Same.upd ndr)
    have htd : t ≠ dr := fun z => by rw [<- z, upd_same] at ndr; cases ndr
    refine q dr os _ ⟨⟨wt, t, upd_same, sA _ _ hwt2, by rw [upd_ne htd, upd_same]⟩, fun o ho => (hod o ho).same sA⟩ ⟨hol, hos⟩ (hb2.same sA) (s2.after sA)
theorem ok_Lotheryard : FnOk P w K mg base CX0 2 f21 d21 ["_law_box_here", "_law_yard_here"] (sp_Lotheryard K) := by
  have G_Ltake := ok_Ltake (P := P) (w := w) (base := base) T
  have G_Lbands := okV_Lbands (P := P) (w := w) (base := base) T
  have G_Lother := okV_Lother (P := P) (w := w) (base := base) T
  refine T.F21.fn.ok sc_Lotheryard (fun vs H Q E h => len_Lotheryard h) (fun cdv A outer s H vs Q E hr h => ?_)
  refine ⟨_, (pss_oy (j := 0) ["_law_letter", "_law_yard_here"] [none, some 1] G_Lbands G_Ltake G_Lother (hr.mono (by decide)) (hr.mono (by decide)) (hr.mono (by decide)) rfl rfl rfl T.F12.mg T.F7.mg T.F8.mg T.F12.fn.kp T.F7.fn.kp T.F8.fn.kp T.F12.bd T.F7.bd T.F8.bd sc_Lotheryard.nd rfl rfl rfl rfl rfl rfl (by first | exact Or.inl rfl | exact Or.inr (Or.inl rfl) | exact Or.inr (Or.inr rfl)) (by first | exact Or.inl rfl | exact Or.inr (Or.inl rfl) | exact Or.inr (Or.inr rfl)) rfl rfl rfl rfl (by first | exact .inl rfl | exact .inr rfl) (by first | exact .inl rfl | exact .inr rfl) (by first | exact .inl rfl | exact .inr rfl) (by first | exact .inl rfl | exact .inr rfl) (pe_call G_Ltake (hr.mono (by decide)) rfl T.F7.mg T.F7.fn.kp T.F7.bd .nil pass0 (pa_cons (pv 0) (pa_cons (pe_callB (call_len_seqK K rfl) rfl T.z_len PySem.boot_len (pa_cons (pv 2) pa_nil)) pa_nil))) (fun _ _ => rfl) (fun _ _ => rfl) (pix_const [97, 98, 99, 100, 101, 102, 103, 104, 105, 106, 107, 108, 109, 110, 111, 112, 113, 114, 115, 116, 117, 118, 119, 120, 121, 122] (by decide +kernel)) ⟨⟨rfl, rfl, by first | exact .inl rfl | exact .inr rfl⟩, trivial⟩ (by decide +kernel) rfl (fun _ _ _ _ => ptk_nin (i := 0) (j := 1) rfl (Or.inl rfl) rfl (by first | exact Or.inl rfl | exact Or.inr (Or.inl rfl) | exact Or.inr (Or.inr rfl)))), ?_⟩
  obtain ⟨b, y, rfl, hb, hy, hy2, hy8, q⟩ := h
  have hs : (100000 : Nat) < sizeLine := by decide
  have hbl := bsOf_len hy
  refine ⟨.ref b, y, rfl, rfl, by omega, y, rfl, by omega, fun qq l2 H1 nq hq hl2 hw2 s1 => ?_⟩
  rw [smalls_low hy.lt] at hl2
  have el := bsOf_eq hl2 hw2
  subst el
  have hqb : qq ≠ b := hb.ne nq
  refine ⟨qq, bsOf y, rfl, hq, by omega, fun o => ?_⟩
  have hb1 := (hb.same s1).updN (o := HO.frz o (.lst (sgs (bsOf y)))) hqb
  have s01 := (SameB.of (b := b) s1).updN (o := HO.frz o (.lst (sgs (bsOf y)))) nq
  refine ⟨_, rfl, _, rfl, qq, _, rfl, .inl (.inl (.inr ⟨o, upd_same⟩)), b, _, rfl, hb1, by rw [sgs_len]; omega, by rw [sgs_len]; omega, fun r H2 hr hb2 s2 => ?_⟩
  rw [sgs_len] at hr
  have hrl : r < (bsOf y).length := by omega
  have hcm := List.getElem_mem hrl
  have hcg : (bsOf y)[r]? = some (bsOf y)[r] := List.getElem?_eq_getElem hrl
  generalize (bsOf y)[r] = c at hcm hcg
  have hcs := bs_small hy hcm
  have hcy : c ∈ y := (List.mem_filter.mp ((bsOf_perm y).mem_iff.mp hcm)).1
  refine ⟨(r : Nat), c, rfl, s2 _ _ upd_same hqb, atI_nat hcg, by omega, ?_⟩
  have s02 := s01.trans s2
  refine ⟨_, rfl, ?_⟩
  refine comp_fix (xs := sgs smalls) (fun i acc H' => H' = H2 /\ acc = sgs ((smalls.take i).filter fun d => !decide (d ∈ y))) (by rw [sgs_len]; decide) ⟨rfl, rfl⟩ ?_ ?_
  · rintro i x acc H3 Nx hi hx hal ⟨rfl, rfl⟩ nx
    obtain ⟨d, hd, rfl⟩ := sgs_get hx
    refine ⟨⟨rfl, trivial⟩, ?_⟩
    refine ⟨_, rfl, _, rfl, d, y, rfl, rfl, _, rfl, ite2 (fun v => ?_) (fun v => ?_)⟩
    · refine ⟨_, rfl, nx _ _ (by simpa using hal) ⟨rfl, ?_⟩⟩
      rw [List.take_succ, hd, List.filter_append]
      show _ = sgs (_ ++ List.filter _ [d])
      rw [List.filter_cons_of_pos (by simpa using v)]
      unfold sgs
      rw [List.map_append]
      rfl
    · refine nx _ _ (Nat.le_succ_of_le hal) ⟨rfl, ?_⟩
      rw [List.take_succ, hd, List.filter_append]
      show _ = sgs (_ ++ List.filter _ [d])
      rw [List.filter_cons_of_neg (by simpa using v)]
      simp
  · rintro acc H3 D hal ⟨rfl, rfl⟩ hD
    rw [sgs_len, List.take_length]
    have hfr : 22 <= (smalls.filter fun d => !decide (d ∈ y)).length := by
      have h1 : (smalls.filter fun d => decide (d ∈ y)).length <= (bsOf y).length := (show (smalls.filter fun d => decide (d ∈ y)).Nodup from List.Pairwise.filter _ smalls_nd).length_le_of_subset fun d hd => by
        obtain ⟨g1, g2⟩ := List.mem_filter.mp hd
        exact (bsOf_perm y).mem_iff.mpr (List.mem_filter.mpr ⟨of_decide_eq_true g2, (low_of_small d g1).1⟩)
      have h2 := List.length_eq_countP_add_countP (l := smalls) fun d => decide (d ∈ y)
      rw [List.countP_eq_length_filter, List.countP_eq_length_filter] at h2
      have h3 : smalls.length = 26 := by decide
      have h4 : (smalls.filter fun d => decide (¬ decide (d ∈ y) = true)) = smalls.filter fun d => !decide (d ∈ y) := List.filter_congr fun d _ => by simp
      rw [h4] at h2
      omega
    have hfl : (smalls.filter fun d => !decide (d ∈ y)).length <= 26 := List.length_filter_le _ _
    have hfm : ∀ f ∈ smalls.filter (fun d => !decide (d ∈ y)), f ∈ smalls /\ f ∉ y := fun f hf => by
      have := List.mem_filter.mp hf
      exact ⟨this.1, by simpa using this.2⟩
    generalize smalls.filter (fun d => !decide (d ∈ y)) = fr at hfr hfl hfm ⊢
    refine ⟨D, fr, rfl, upd_same, by omega, fun o2 => ?_⟩
    have hDb : D ≠ b := hb2.ne hD
    rw [upd_upd]
    have hb3 := hb2.updN (o := HO.frz o2 (.lst (sgs fr))) hDb
    have s03 := s02.updN (o := HO.frz o2 (.lst (sgs fr))) (s02.none hD hDb)
    refine ⟨b, 22, rfl, hb3, by decide, by decide, fun r2 H4 hr2 hb4 s4 => ?_⟩
    have hr2l : r2 < fr.length := by omega
    have hfg : fr[r2]? = some fr[r2] := List.getElem?_eq_getElem hr2l
    obtain ⟨hfs, hfy⟩ := hfm _ (List.getElem_mem hr2l)
    generalize fr[r2] = f at hfg hfs hfy
    have hcf : c ≠ f := fun z => hfy (by rw [<- z]; exact hcy)
    have hlc : Lt c := .inl hcs
    have hlf : Lt f := .inl hfs
    refine ⟨(r2 : Nat), f, rfl, s4 _ _ upd_same hDb, atI_nat hfg, by omega, hcf, c, rfl, hlc, ctr c, rfl, f, rfl, hlf, ctr f, rfl, fun z => hcf ?_, ?_⟩
    · rw [<- ctr_ctr hlc, z, ctr_ctr hlf]
    refine q _ _ (fun d hd => ?_) (by rw [rp_len, rp_len]) hb4 (s03.trans s4)
    have rpm : ∀ {c f d : Nat} {l : List Nat}, d ∈ rp c f l -> d ∈ l \/ d = f := fun {c f d l} h => by
      unfold rp at h
      obtain ⟨e, he, z⟩ := List.mem_map.mp h
      by_cases g : e = c
      · rw [if_pos g] at z; exact .inr z.symm
      · rw [if_neg g] at z; exact .inl (by rw [<- z]; exact he)
    rcases rpm hd with h | h
    · rcases rpm h with h | h
      · exact hy.lt d h
      · rw [h]; exact hlf
    · rw [h]; exact hlf.ctr
theorem ok_Lwanted : FnOk P w K mg base CX0 4 f22 d22 ["_law_yard_here", "_law_drawing_here"] (sp_Lwanted K) := by
  have G_Ldue := ok_Ldue (P := P) (w := w) (base := base) T
  refine T.F22.fn.ok sc_Lwanted (fun vs H Q E h => len_Lwanted h) (fun cdv A outer s H vs Q E hr h => ?_)
  refine ⟨_, (pss_cons (ps_set (i := 2) sc_Lwanted.nd rfl (Or.inl rfl) (pe_call G_Ldue (hr.mono (by decide)) rfl T.F19.mg T.F19.fn.kp T.F19.bd .nil pass0 (pa_cons (pv 0) (pa_cons (pv 1) pa_nil))))
      (pss_cons (ps_if (pt_val (pe_callB (call_isListB K rfl) rfl T.z_isinstance boot_isinstance (pa_cons (pv 2) (pa_cons (pe_bltn (v := .ty "list") rfl T.z_list boot_list rfl) pa_nil)))) (pss_one (ps_ret (pv 2))) pss_nil)
      (pss_one (ps_ret (pe_tup (pa_cons (pe_S [116, 111, 108, 100] (by decide +kernel)) (pa_cons (pv 2) pa_nil))))))), ?_⟩
  obtain ⟨y, dr, ws, os, rfl, hD, q1, q2⟩ := h
  refine ⟨_, rfl, _, rfl, y, dr, ws, os, rfl, hD, fun e H1 s1 => ?_, fun w k e p H1 hp s1 => ?_⟩
  · refine ⟨_, rfl, _, rfl, .inr ⟨true, rfl, ?_⟩⟩
    refine ⟨_, rfl, iteN rfl ?_⟩
    exact ⟨_, rfl, by show 2 <= sizeLine; decide, fun t nt => q1 e t _ upd_same (s1.trans (Same.upd nt))⟩
  · refine ⟨_, rfl, _, rfl, .inl ⟨p, _, rfl, hp, ?_⟩⟩
    refine ⟨_, rfl, iteY rfl ?_⟩
    exact ⟨_, rfl, q2 w k e p H1 hp s1⟩
theorem ok_law : FnOk P w K mg base CX0 6 f23 d23 ["_law_script"] (sp_law K) := by
  have G_Lbox := ok_Lbox (P := P) (w := w) (base := base) T
  have G_Lyard := ok_Lyard (P := P) (w := w) (base := base) T
  have G_Lwords := ok_Lwords (P := P) (w := w) (base := base) T
  have G_Ldrawing := ok_Ldrawing (P := P) (w := w) (base := base) T
  have G_Lotheryard := ok_Lotheryard (P := P) (w := w) (base := base) T
  have G_Ltold := ok_Ltold (P := P) (w := w) (base := base) T
  have G_Lwanted := ok_Lwanted (P := P) (w := w) (base := base) T
  have G_Ltake := ok_Ltake (P := P) (w := w) (base := base) T
  have G_Lotherwise := ok_Lotherwise (P := P) (w := w) (base := base) T
  refine T.F23.fn.ok sc_law (fun vs H Q E h => len_law h) (fun cdv A outer s H vs Q E hr h => ?_)
  refine ⟨_, (pss_cons (ps_set (i := 1) sc_law.nd rfl (Or.inl rfl) (pe_call G_Lbox (hr.mono (by decide)) rfl T.F6.mg T.F6.fn.kp T.F6.bd .nil pass0 (pa_cons (pv 0) (pa_cons pe_int pa_nil))))
      (pss_cons (ps_set (i := 2) sc_law.nd rfl (Or.inl rfl) (pe_call G_Lyard (hr.mono (by decide)) rfl T.F9.mg T.F9.fn.kp T.F9.bd .nil pass0 (pa_cons (pv 1) (pa_cons pe_int (pa_cons pe_int pa_nil)))))
      (pss_cons (ps_set (i := 3) sc_law.nd rfl (Or.inl rfl) (pe_call G_Lwords (hr.mono (by decide)) rfl T.F14.mg T.F14.fn.kp T.F14.bd .nil pass0 (pa_cons (pv 1) (pa_cons (pv 2) pa_nil))))
      (pss_cons (ps_set (i := 4) sc_law.nd rfl (Or.inl rfl) (pe_call G_Ldrawing (hr.mono (by decide)) rfl T.F13.mg T.F13.fn.kp T.F13.bd .nil pass0 (pa_cons (pe_call G_Lbox (hr.mono (by decide)) rfl T.F6.mg T.F6.fn.kp T.F6.bd .nil pass0 (pa_cons (pv 0) (pa_cons pe_int pa_nil))) (pa_cons (pv 2) (pa_cons (pv 3) pa_nil)))))
      (pss_cons (ps_for PassesOwn.never rfl (pi_tupK K rfl (pe_tup (pa_cons (pe_op op_addS (pv 2) (pe_op op_mulS (pe_S [122, 90] (by decide +kernel)) (pe_callTy call_int1 rfl T.z_int boot_int (pa_cons (pe_and (pe_cmpR op_ninS (pe_S [122] (by decide +kernel)) (pv 2) (by with_unfolding_all rfl)) (pe_one (pe_cmpR op_lt (pe_callB call_lenS rfl T.z_len PySem.boot_len (pa_cons (pv 2) pa_nil)) pe_int (nomark _)))) pa_nil)))) (pa_cons (pe_call G_Lotheryard (hr.mono (by decide)) rfl T.F21.mg T.F21.fn.kp T.F21.bd .nil pass0 (pa_cons (pv 1) (pa_cons (pv 2) pa_nil))) pa_nil)))) (pg_name (i := 5) sc_law.nd rfl (Or.inl rfl)) (pss_one (ps_if (pt_cmpR op_neS (pe_callB (call_reprD K rfl hr) rfl T.z_repr boot_repr (pa_cons (pe_call G_Ltold (hr.mono (by decide)) rfl T.F20.mg T.F20.fn.kp T.F20.bd .nil pass0 (pa_cons (pv 5) (pa_cons (pv 4) pa_nil))) pa_nil)) (pe_callB (call_reprD K rfl hr) rfl T.z_repr boot_repr (pa_cons (pe_call G_Lwanted (hr.mono (by decide)) rfl T.F22.mg T.F22.fn.kp T.F22.bd .nil pass0 (pa_cons (pv 5) (pa_cons (pv 4) pa_nil))) pa_nil)) (nomark _)) (pss_one (ps_ret pe_bl)) pss_nil)))
      (pss_cons (ps_for PassesOwn.never rfl (pi_range2 rfl T.z_range (pa_cons pe_int (pa_cons (pe_callB (call_max2 rfl) rfl T.z_max boot_max (pa_cons pe_int (pa_cons (pe_callB (call_min2 rfl) rfl T.z_min boot_min (pa_cons pe_int (pa_cons (pe_callB (call_len_seqK K rfl) rfl T.z_len PySem.boot_len (pa_cons (pv 0) pa_nil)) pa_nil))) pa_nil))) pa_nil))) (pg_name (i := 6) sc_law.nd rfl (Or.inl rfl)) (pss_cons (ps_set (i := 1) sc_law.nd rfl (Or.inl rfl) (pe_call G_Lbox (hr.mono (by decide)) rfl T.F6.mg T.F6.fn.kp T.F6.bd .nil pass0 (pa_cons (pv 0) (pa_cons (pv 6) pa_nil))))
      (pss_cons (ps_set (i := 7) sc_law.nd rfl (Or.inl rfl) (pe_cmpR op_eqI (pe_call G_Ltake (hr.mono (by decide)) rfl T.F7.mg T.F7.fn.kp T.F7.bd .nil pass0 (pa_cons (pv 1) (pa_cons pe_int pa_nil))) pe_int (nomark _)))
      (pss_cons (ps_set (i := 8) sc_law.nd rfl (Or.inl rfl) (pe_call G_Lotherwise (hr.mono (by decide)) rfl T.F18.mg T.F18.fn.kp T.F18.bd .nil pass0 (pa_cons (pv 1) (pa_cons (pv 2) (pa_cons (pv 4) pa_nil)))))
      (pss_cons (ps_if (pt_val (pv 7)) (pss_one (ps_set (i := 8) sc_law.nd rfl (Or.inl rfl) (pe_call G_Lotherwise (hr.mono (by decide)) rfl T.F18.mg T.F18.fn.kp T.F18.bd .nil pass0 (pa_cons (pv 1) (pa_cons (pv 2) (pa_cons (pv 8) pa_nil)))))) pss_nil)
      (pss_cons (ps_if (pt_cmpR op_neS (pe_callB (call_reprD K rfl hr) rfl T.z_repr boot_repr (pa_cons (pe_call G_Ltold (hr.mono (by decide)) rfl T.F20.mg T.F20.fn.kp T.F20.bd .nil pass0 (pa_cons (pv 2) (pa_cons (pv 8) pa_nil))) pa_nil)) (pe_callB (call_reprD K rfl hr) rfl T.z_repr boot_repr (pa_cons (pe_call G_Lwanted (hr.mono (by decide)) rfl T.F22.mg T.F22.fn.kp T.F22.bd .nil pass0 (pa_cons (pv 2) (pa_cons (pv 8) pa_nil))) pa_nil)) (nomark _)) (pss_one (ps_ret pe_bl)) pss_nil)
      (pss_one (ps_if (pt_cmpR op_neS (pe_callB (call_reprD K rfl hr) rfl T.z_repr boot_repr (pa_cons (pe_call G_Ltold (hr.mono (by decide)) rfl T.F20.mg T.F20.fn.kp T.F20.bd .nil pass0 (pa_cons (pv 2) (pa_cons (pv 4) pa_nil))) pa_nil)) (pe_S [40, 39, 116, 111, 108, 100, 39, 44, 32, 84, 114, 117, 101, 41] (by decide +kernel)) (nomark _)) (pss_one (ps_ret pe_bl)) pss_nil))))))))
      (pss_one (ps_ret pe_bl)))))))), ?_⟩
  obtain ⟨a, ns, rfl, hS, hl, q⟩ := h
  have hs : (100000 : Nat) < sizeLine := by decide
  refine ⟨_, rfl, a, ns, 0, rfl, hS, by decide, fun b H1 nb bx s1 => ?_⟩
  refine ⟨_, rfl, b, 1, 4, rfl, bx, by decide, by decide, by decide, fun y H2 hy hy1 hy2 bx2 s2 => ?_⟩
  have hyn : y ≠ [] := fun z => by rw [z] at hy1; simp at hy1
  refine ⟨_, rfl, _, rfl, b, y, rfl, bx2, hyn, by omega, fun wt ws H3 nwt wtb hwt hws bx3 s3 => ?_⟩
  have s03 : Same H H3 := SameB.same nb s1 (s2.trans s3)
  refine ⟨_, rfl, a, ns, 1, rfl, s03.seq hS, by decide, fun b2 H4 nb2 bx4 s4 => ?_⟩
  have hwb2 : wt ≠ b2 := fun z => by rw [z, nb2] at hwt; cases hwt
  have hbb : b ≠ b2 := fun z => by obtain ⟨u, v, e⟩ := bx3; rw [z, nb2] at e; cases e
  refine ⟨_, rfl, _, rfl, b2, y, wt, ws, rfl, bx4, hy, by omega, hwb2, s4 _ _ hwt, hws, fun dr0 os H5 hdr hos bx5 s5 => ?_⟩
  have s05 : Same H H5 := fun x u e => s5 _ _ (s4 _ _ (s03 _ _ e)) (ne_of_none (s03 _ _ e) nb2)
  have bx6 : BoxAt H5 b := by obtain ⟨u, v, e⟩ := bx3; exact ⟨u, v, s5 _ _ (s4 _ _ e) hbb⟩
  have hdi := di_of hdr
  have hBd := good_bd hy (by omega) hws hos
  have hdue := good_due hws hos
  generalize os.map oiOf = oi at hdi hBd hdue
  have hev := bsOf_len hy
  clear bx bx2 bx3 bx4 bx5 s1 s2 s3 s4 s5 s03 hwt nwt nb2 hdr
  apply cutY (H5 := H5) (P := fun y1 => (∀ c ∈ y1, Lt c) /\ y1.length <= 8)
  · intro key
    have nil : (∀ c ∈ y ++ ([] : List Nat), Lt c) /\ (y ++ ([] : List Nat)).length <= 8 := by rw [List.append_nil]; exact ⟨hy.lt, by omega⟩
    have lz : ∀ c ∈ ([122, 90] : List Nat), Lt c := fun c hc => by
      rcases List.mem_cons.mp hc with rfl | hc
      · exact .inl (by decide)
      · rw [List.mem_singleton.mp hc]; exact .inr (by decide)
    (repeat (first | refine ⟨_, rfl, ?_⟩ | refine ⟨_, _, rfl, rfl, ?_⟩ | refine ⟨rfl, ?_⟩ | refine And.intro (by first | decide | omega | assumption | exact Nat.le_of_ble_eq_true rfl | exact .inl ⟨by decide, by decide⟩ | exact .inr ⟨by decide, by decide⟩ | exact ⟨by decide, by decide⟩ | exact ⟨by omega, by omega⟩) ?_))
    refine ite2 (fun z1 => ?_) (fun z1 => ?_)
    · (repeat (first | refine ⟨_, rfl, ?_⟩ | refine ⟨_, _, rfl, rfl, ?_⟩ | refine ⟨rfl, ?_⟩ | refine And.intro (by first | decide | omega | assumption | exact Nat.le_of_ble_eq_true rfl | exact .inl ⟨by decide, by decide⟩ | exact .inr ⟨by decide, by decide⟩ | exact ⟨by decide, by decide⟩ | exact ⟨by omega, by omega⟩) ?_))
      by_cases h8 : (y.length : Int) < 8
      · refine .inr ⟨_, rfl, [122, 90], 1, rfl, by rw [decide_eq_true h8]; rfl, by decide, by decide, ?_⟩
        refine ⟨y, [122, 90], rfl, rfl, by show y.length + 2 <= sizeLine; omega, ?_⟩
        have hP : (∀ c ∈ y ++ [122, 90], Lt c) /\ (y ++ [122, 90]).length <= 8 := ⟨fun c hc => by
          rcases List.mem_append.mp hc with g | g
          · exact hy.lt c g
          · exact lz c g, by rw [List.length_append]; show y.length + 2 <= 8; omega⟩
        generalize y ++ [122, 90] = y1 at hP ⊢
        exact key y1 H5 hP (Same.refl _)
      · refine .inr ⟨_, rfl, [122, 90], 0, rfl, by rw [decide_eq_false h8]; rfl, by decide, by decide, ?_⟩
        refine ⟨y, [], rfl, rfl, by show y.length + 0 <= sizeLine; omega, ?_⟩
        generalize y ++ ([] : List Nat) = y1 at nil ⊢
        exact key y1 H5 nil (Same.refl _)
    · have z1' : (!decide (122 ∈ y)) = false := by simpa using z1
      refine .inr ⟨_, rfl, [122, 90], 0, rfl, by rfl, by decide, by decide, ?_⟩
      refine ⟨y, [], rfl, rfl, by show y.length + 0 <= sizeLine; omega, ?_⟩
      generalize y ++ ([] : List Nat) = y1 at nil ⊢
      exact key y1 H5 nil (Same.refl _)
  · intro y1 H6 hy1' s6
    have bx6' := bx6.same s6
    refine ⟨_, rfl, _, rfl, b, y, rfl, bx6', hy, by omega, by omega, fun y2 H7 hy2l hy2n bx7 s7 => ?_⟩
    have s07 : Same H H7 := SameB.same nb (s05.trans s6) s7
    have ts57 : TSame H5 H7 := (TSame.of s6).trans (TSame.box bx6' s7)
    refine ⟨by show 2 <= sizeLine; decide, fun p np => ?_⟩
    have tp := Same.upd (o := HO.tup [V.str (S y1), V.str (S y2)]) np
    have hp := upd_same (H := H7) (a := p) (o := HO.tup [V.str (S y1), V.str (S y2)])
    have s08 := s07.trans tp
    have hdi8 := hdi.ts (ts57.trans (TSame.of tp))
    generalize upd H7 p (HO.tup [V.str (S y1), V.str (S y2)]) = H8 at hp s08 hdi8 ⊢
    clear tp np s07 ts57 s7 s6 bx7 bx6' bx6 hdi s05 nb
    have hB2 := hBd.up (show 0 <= 2 by decide)
    refine ⟨p, rfl, ⟨_, SqT.of hp⟩, ?_⟩
    refine for_tup (K := K) (a := p) (xs := [V.str (S y1), V.str (S y2)]) (fun i σ H' => ∃ (sv : Option V), σ = [some (.ref a), some (.ref b), some (.str (S y)), some (.ref wt), some (.ref dr0), sv, none, none, none] /\ Same H8 H') ⟨none, rfl, Same.refl _⟩ (fun i σ H' _ ⟨_, _, h⟩ => SqT.of (h _ _ hp)) ?_ ?_
    · rintro i x σ H9 hxi ⟨sv, rfl, s9⟩
      obtain ⟨yy, rfl, hyy⟩ : ∃ yy, x = V.str (S yy) /\ (∀ c ∈ yy, Lt c) /\ yy.length <= 8 := by
        have hi2 : i < 2 := (List.getElem?_eq_some_iff.mp hxi).1
        rcases (by omega : i = 0 \/ i = 1) with rfl | rfl
        · cases hxi; exact ⟨y1, rfl, hy1'⟩
        · cases hxi; exact ⟨y2, rfl, hy2l, by omega⟩
      obtain ⟨D, hsm, hT⟩ := tells_one K (y := yy) (ws := ws) (os := oi) hyy.2 hB2
      refine ⟨_, rfl, _, rfl, yy, dr0, ws, oi, rfl, ⟨hyy.1, hyy.2, hB2, hdi8.same s9⟩, hT fun v HA hv sA => ?_⟩
      refine ⟨_, _, rfl, hv, hsm, ?_⟩
      refine ⟨_, rfl, _, rfl, yy, dr0, ws, oi, rfl, ⟨hyy.1, hyy.2, hB2, hdi8.same (s9.trans sA)⟩, hT fun v2 HB hv2 sB => ?_⟩
      refine ⟨_, _, rfl, hv2, hsm, ?_⟩
      generalize RT D = X1
      refine ⟨X1, X1, rfl, rfl, _, rfl, iteN (by simp) ?_⟩
      exact ⟨_, rfl, s9.trans (sA.trans sB)⟩
    · rintro σ H9 ⟨sv, rfl, s9⟩
      have s09 := s08.trans s9
      have hdi9 := hdi8.same s9
      clear s08 hdi8 s9 hp
      refine ⟨_, rfl, a, _, rfl, .inl (s09.seq hS), ?_⟩
      refine ⟨_, _, rfl, _, _, rfl, ?_⟩
      obtain ⟨M, hM, hM1, hM2⟩ := max_min9 ((ns.map V.int).length : Int) (by omega)
      rw [hM]
      refine ⟨2, (M : Int), rfl, ⟨by decide, by decide, by omega, by omega⟩, ?_⟩
      refine for_range (fun i σ H' => ∃ (bv kv tv dv : Option V), σ = [some (.ref a), bv, some (.str (S y)), some (.ref wt), some (.ref dr0), sv, kv, tv, dv] /\ Same H9 H') ⟨_, _, _, _, rfl, Same.refl _⟩ ?_ ?_
      · rintro i σ HA hi ⟨bv, kv, tv, dv, rfl, sA⟩
        have hk : ((2 : Int) + (i : Int)) = ((2 + i : Nat) : Int) := by omega
        refine ⟨_, rfl, _, rfl, a, ns, 2 + i, by rw [<- hk]; rfl, (s09.trans sA).seq hS, by omega, fun b3 HB nb3 bx3 sB => ?_⟩
        refine ⟨_, rfl, b3, 3, rfl, bx3, by decide, by decide, fun r HC hr bxC sC => ?_⟩
        refine ⟨_, _, rfl, rfl, ?_⟩
        have hy128 : ∀ c ∈ y, c < 128 := fun c hc => (hy.lt c hc).lt
        have tsBC := TSame.box bx3 sC
        have hdiC := (hdi9.same (sA.trans sB)).ts tsBC
        refine ⟨_, rfl, _, rfl, _, rfl, b3, y, dr0, ws, oi, 0, rfl, bxC, hy128, by omega, by decide, hBd, hdiC, fun dr1 ws1 os1 HD hd1 hB1 bxD sD => ?_⟩
        have sBD := sC.trans sD
        apply cutB (HA := HA)
        · intro key
          refine ⟨_, rfl, _, rfl, ite2 (fun z => ?_) (fun z => ?_)⟩
          · refine ⟨_, rfl, _, rfl, _, rfl, b3, y, dr1, ws1, os1, 1, rfl, bxD, hy128, by omega, by decide, hB1, hd1, fun dr2 ws2 os2 HE hd2 hB2' bxE sE => ?_⟩
            exact key dr2 ws2 os2 HE hd2 hB2' (SameB.same nb3 sB (sBD.trans sE))
          · exact key dr1 ws1 os1 HD hd1 (hB1.up (by decide)) (SameB.same nb3 sB sBD)
        · intro dr2 ws2 os2 HE hd2 hB2' sAE
          have sE := sA.trans sAE
          obtain ⟨D, hsm, hT⟩ := tells_one K (y := y) (ws := ws2) (os := os2) (by omega) hB2'
          refine ⟨_, rfl, _, rfl, y, dr2, ws2, os2, rfl, ⟨hy.lt, by omega, hB2', hd2⟩, hT fun v HF hv sF => ?_⟩
          refine ⟨_, _, rfl, hv, hsm, ?_⟩
          refine ⟨_, rfl, _, rfl, y, dr2, ws2, os2, rfl, ⟨hy.lt, by omega, hB2', hd2.same sF⟩, hT fun v2 HG hv2 sG => ?_⟩
          refine ⟨_, _, rfl, hv2, hsm, ?_⟩
          generalize RT D = X1
          refine ⟨X1, X1, rfl, rfl, _, rfl, iteN (by simp) ?_⟩
          have sEG := sE.trans (sF.trans sG)
          refine ⟨_, rfl, _, rfl, y, dr0, ws, oi, rfl, ⟨hy.lt, by omega, hB2, hdi9.same sEG⟩, ⟨fun _ t HI ht sI => ?_, fun w k e => by rw [hdue] at e; cases e⟩⟩
          refine ⟨_, _, rfl, rd_told3 ht, sm_told3, ?_⟩
          rw [rt_told3]
          refine ⟨_, _, rfl, rfl, _, rfl, iteN (by simp) ?_⟩
          exact ⟨_, _, _, _, rfl, sEG.trans sI⟩
      · rintro σ HA ⟨bv, kv, tv, dv, rfl, sA⟩
        exact q _
end
theorem us_z {M : List Value -> Prop} (h : M []) : ∀ us : List Value, us.length = 0 -> M us
  | [], _ => h
theorem us_s {M : List Value -> Prop} {n : Nat} (h : ∀ (a : Value) (us : List Value), us.length = n -> M (a :: us)) : ∀ us : List Value, us.length = n + 1 -> M us
  | a :: us, e => h a us (Nat.succ.inj e)
theorem all_mk {l : PySem.W.OpenLaw} {w : World} {K : PySem.W.Frag} {h : Heap} {mg : Str -> Option Value} {fa f0 f1 f2 f3 f4 f5 f6 f7 f8 f9 f10 f11 f12 f13 f14 f15 f16 f17 f18 f19 f20 f21 f22 f23 c_NoDrawing c_MeetError c_NoCut c_NoDeed c_NoName c_NoPaper c_NoRow c_NoText c_NoWord c_NoYard c_NotApart c_NotLone c_TooLong c_Twice g_NoDrawing : Addr} (X : K.In h) (G : h.Ns mainGlobals mg) (hfa : mg "law" = some (.ref fa))
    {od0 an0 od1 an1 od2 an2 od3 an3 od4 an4 od5 an5 od6 an6 od7 an7 od8 an8 od9 an9 od10 an10 od11 an11 od12 an12 od13 an13 od14 an14 od15 an15 od16 an16 od17 an17 od18 an18 od19 an19 od20 an20 od21 an21 od22 an22 od23 an23 od_NoDrawing an_NoDrawing : Option Addr} {sl0 sl1 sl2 sl3 sl4 sl5 sl6 sl7 sl8 sl9 sl10 sl11 sl12 sl13 sl14 sl15 sl16 sl17 sl18 sl19 sl20 sl21 sl22 sl23 sl_NoDrawing : Array (Option Value)} {oc0 kV0 dc0 pm0 cd0 ct0 oc1 kV1 dc1 pm1 cd1 ct1 oc2 kV2 dc2 pm2 cd2 ct2 oc3 kV3 dc3 pm3 cd3 ct3 oc4 kV4 dc4 pm4 cd4 ct4 oc5 kV5 dc5 pm5 cd5 ct5 oc6 kV6 dc6 pm6 cd6 ct6 oc7 kV7 dc7 pm7 cd7 ct7 oc8 kV8 dc8 pm8 cd8 ct8 oc9 kV9 dc9 pm9 cd9 ct9 oc10 kV10 dc10 pm10 cd10 ct10 oc11 kV11 dc11 pm11 cd11 ct11 oc12 kV12 dc12 pm12 cd12 ct12 oc13 kV13 dc13 pm13 cd13 ct13 oc14 kV14 dc14 pm14 cd14 ct14 oc15 kV15 dc15 pm15 cd15 ct15 oc16 kV16 dc16 pm16 cd16 ct16 oc17 kV17 dc17 pm17 cd17 ct17 oc18 kV18 dc18 pm18 cd18 ct18 oc19 kV19 dc19 pm19 cd19 ct19 oc20 kV20 dc20 pm20 cd20 ct20 oc21 kV21 dc21 pm21 cd21 ct21 oc22 kV22 dc22 pm22 cd22 ct22 oc23 kV23 dc23 pm23 cd23 ct23 oc_NoDrawing kV_NoDrawing dc_NoDrawing pm_NoDrawing cd_NoDrawing ct_NoDrawing : Value}
    (a0 : PySem.W.nsIn K mainGlobals "foreign_sign" = some (some (.ref f0)))
    (l0 : K.lookup f0 = some ⟨oc0, od0, .func (PySem.W.fnOf "foreign_sign" "foreign_sign" (defArgs s_foreign_sign) (defBody s_foreign_sign) (defScope s_foreign_sign) .none kV0 dc0 pm0 an0 cd0 ct0), sl0⟩)
    (c0 : PySem.W.codeIn K cd0 "foreign_sign" = true)
    (k0 : PySem.W.keepIn K (.ref f0) = true)
    (a1 : PySem.W.nsIn K mainGlobals "bands" = some (some (.ref f1)))
    (l1 : K.lookup f1 = some ⟨oc1, od1, .func (PySem.W.fnOf "bands" "bands" (defArgs s_bands) (defBody s_bands) (defScope s_bands) .none kV1 dc1 pm1 an1 cd1 ct1), sl1⟩)
    (c1 : PySem.W.codeIn K cd1 "bands" = true)
    (k1 : PySem.W.keepIn K (.ref f1) = true)
    (a2 : PySem.W.nsIn K mainGlobals "strands_in" = some (some (.ref f2)))
    (l2 : K.lookup f2 = some ⟨oc2, od2, .func (PySem.W.fnOf "strands_in" "strands_in" (defArgs s_strands_in) (defBody s_strands_in) (defScope s_strands_in) .none kV2 dc2 pm2 an2 cd2 ct2), sl2⟩)
    (c2 : PySem.W.codeIn K cd2 "strands_in" = true)
    (k2 : PySem.W.keepIn K (.ref f2) = true)
    (a3 : PySem.W.nsIn K mainGlobals "look_words" = some (some (.ref f3)))
    (l3 : K.lookup f3 = some ⟨oc3, od3, .func (PySem.W.fnOf "look_words" "look_words" (defArgs s_look_words) (defBody s_look_words) (defScope s_look_words) .none kV3 dc3 pm3 an3 cd3 ct3), sl3⟩)
    (c3 : PySem.W.codeIn K cd3 "look_words" = true)
    (k3 : PySem.W.keepIn K (.ref f3) = true)
    (a4 : PySem.W.nsIn K mainGlobals "look_orders" = some (some (.ref f4)))
    (l4 : K.lookup f4 = some ⟨oc4, od4, .func (PySem.W.fnOf "look_orders" "look_orders" (defArgs s_look_orders) (defBody s_look_orders) (defScope s_look_orders) .none kV4 dc4 pm4 an4 cd4 ct4), sl4⟩)
    (c4 : PySem.W.codeIn K cd4 "look_orders" = true)
    (k4 : PySem.W.keepIn K (.ref f4) = true)
    (a5 : PySem.W.nsIn K mainGlobals "look_drawing" = some (some (.ref f5)))
    (l5 : K.lookup f5 = some ⟨oc5, od5, .func (PySem.W.fnOf "look_drawing" "look_drawing" (defArgs s_look_drawing) (defBody s_look_drawing) (defScope s_look_drawing) .none kV5 dc5 pm5 an5 cd5 ct5), sl5⟩)
    (c5 : PySem.W.codeIn K cd5 "look_drawing" = true)
    (k5 : PySem.W.keepIn K (.ref f5) = true)
    (a6 : PySem.W.nsIn K mainGlobals "_law_box" = some (some (.ref f6)))
    (l6 : K.lookup f6 = some ⟨oc6, od6, .func (PySem.W.fnOf "_law_box" "_law_box" (defArgs s_Lbox) (defBody s_Lbox) (defScope s_Lbox) .none kV6 dc6 pm6 an6 cd6 ct6), sl6⟩)
    (c6 : PySem.W.codeIn K cd6 "_law_box" = true)
    (k6 : PySem.W.keepIn K (.ref f6) = true)
    (a7 : PySem.W.nsIn K mainGlobals "_law_take" = some (some (.ref f7)))
    (l7 : K.lookup f7 = some ⟨oc7, od7, .func (PySem.W.fnOf "_law_take" "_law_take" (defArgs s_Ltake) (defBody s_Ltake) (defScope s_Ltake) .none kV7 dc7 pm7 an7 cd7 ct7), sl7⟩)
    (c7 : PySem.W.codeIn K cd7 "_law_take" = true)
    (k7 : PySem.W.keepIn K (.ref f7) = true)
    (a8 : PySem.W.nsIn K mainGlobals "_law_other" = some (some (.ref f8)))
    (l8 : K.lookup f8 = some ⟨oc8, od8, .func (PySem.W.fnOf "_law_other" "_law_other" (defArgs s_Lother) (defBody s_Lother) (defScope s_Lother) .none kV8 dc8 pm8 an8 cd8 ct8), sl8⟩)
    (c8 : PySem.W.codeIn K cd8 "_law_other" = true)
    (k8 : PySem.W.keepIn K (.ref f8) = true)
    (a9 : PySem.W.nsIn K mainGlobals "_law_yard" = some (some (.ref f9)))
    (l9 : K.lookup f9 = some ⟨oc9, od9, .func (PySem.W.fnOf "_law_yard" "_law_yard" (defArgs s_Lyard) (defBody s_Lyard) (defScope s_Lyard) .none kV9 dc9 pm9 an9 cd9 ct9), sl9⟩)
    (c9 : PySem.W.codeIn K cd9 "_law_yard" = true)
    (k9 : PySem.W.keepIn K (.ref f9) = true)
    (a10 : PySem.W.nsIn K mainGlobals "_law_word" = some (some (.ref f10)))
    (l10 : K.lookup f10 = some ⟨oc10, od10, .func (PySem.W.fnOf "_law_word" "_law_word" (defArgs s_Lword) (defBody s_Lword) (defScope s_Lword) .none kV10 dc10 pm10 an10 cd10 ct10), sl10⟩)
    (c10 : PySem.W.codeIn K cd10 "_law_word" = true)
    (k10 : PySem.W.keepIn K (.ref f10) = true)
    (a11 : PySem.W.nsIn K mainGlobals "_law_order" = some (some (.ref f11)))
    (l11 : K.lookup f11 = some ⟨oc11, od11, .func (PySem.W.fnOf "_law_order" "_law_order" (defArgs s_Lorder) (defBody s_Lorder) (defScope s_Lorder) .none kV11 dc11 pm11 an11 cd11 ct11), sl11⟩)
    (c11 : PySem.W.codeIn K cd11 "_law_order" = true)
    (k11 : PySem.W.keepIn K (.ref f11) = true)
    (a12 : PySem.W.nsIn K mainGlobals "_law_bands" = some (some (.ref f12)))
    (l12 : K.lookup f12 = some ⟨oc12, od12, .func (PySem.W.fnOf "_law_bands" "_law_bands" (defArgs s_Lbands) (defBody s_Lbands) (defScope s_Lbands) .none kV12 dc12 pm12 an12 cd12 ct12), sl12⟩)
    (c12 : PySem.W.codeIn K cd12 "_law_bands" = true)
    (k12 : PySem.W.keepIn K (.ref f12) = true)
    (a13 : PySem.W.nsIn K mainGlobals "_law_drawing" = some (some (.ref f13)))
    (l13 : K.lookup f13 = some ⟨oc13, od13, .func (PySem.W.fnOf "_law_drawing" "_law_drawing" (defArgs s_Ldrawing) (defBody s_Ldrawing) (defScope s_Ldrawing) .none kV13 dc13 pm13 an13 cd13 ct13), sl13⟩)
    (c13 : PySem.W.codeIn K cd13 "_law_drawing" = true)
    (k13 : PySem.W.keepIn K (.ref f13) = true)
    (a14 : PySem.W.nsIn K mainGlobals "_law_words" = some (some (.ref f14)))
    (l14 : K.lookup f14 = some ⟨oc14, od14, .func (PySem.W.fnOf "_law_words" "_law_words" (defArgs s_Lwords) (defBody s_Lwords) (defScope s_Lwords) .none kV14 dc14 pm14 an14 cd14 ct14), sl14⟩)
    (c14 : PySem.W.codeIn K cd14 "_law_words" = true)
    (k14 : PySem.W.keepIn K (.ref f14) = true)
    (a15 : PySem.W.nsIn K mainGlobals "_law_strands" = some (some (.ref f15)))
    (l15 : K.lookup f15 = some ⟨oc15, od15, .func (PySem.W.fnOf "_law_strands" "_law_strands" (defArgs s_Lstrands) (defBody s_Lstrands) (defScope s_Lstrands) .none kV15 dc15 pm15 an15 cd15 ct15), sl15⟩)
    (c15 : PySem.W.codeIn K cd15 "_law_strands" = true)
    (k15 : PySem.W.keepIn K (.ref f15) = true)
    (a16 : PySem.W.nsIn K mainGlobals "_law_sign" = some (some (.ref f16)))
    (l16 : K.lookup f16 = some ⟨oc16, od16, .func (PySem.W.fnOf "_law_sign" "_law_sign" (defArgs s_Lsign) (defBody s_Lsign) (defScope s_Lsign) .none kV16 dc16 pm16 an16 cd16 ct16), sl16⟩)
    (c16 : PySem.W.codeIn K cd16 "_law_sign" = true)
    (k16 : PySem.W.keepIn K (.ref f16) = true)
    (a17 : PySem.W.nsIn K mainGlobals "_law_order_otherwise" = some (some (.ref f17)))
    (l17 : K.lookup f17 = some ⟨oc17, od17, .func (PySem.W.fnOf "_law_order_otherwise" "_law_order_otherwise" (defArgs s_Lorderotherwise) (defBody s_Lorderotherwise) (defScope s_Lorderotherwise) .none kV17 dc17 pm17 an17 cd17 ct17), sl17⟩)
    (c17 : PySem.W.codeIn K cd17 "_law_order_otherwise" = true)
    (k17 : PySem.W.keepIn K (.ref f17) = true)
    (a18 : PySem.W.nsIn K mainGlobals "_law_otherwise" = some (some (.ref f18)))
    (l18 : K.lookup f18 = some ⟨oc18, od18, .func (PySem.W.fnOf "_law_otherwise" "_law_otherwise" (defArgs s_Lotherwise) (defBody s_Lotherwise) (defScope s_Lotherwise) .none kV18 dc18 pm18 an18 cd18 ct18), sl18⟩)
    (c18 : PySem.W.codeIn K cd18 "_law_otherwise" = true)
    (k18 : PySem.W.keepIn K (.ref f18) = true)
    (a19 : PySem.W.nsIn K mainGlobals "_law_due" = some (some (.ref f19)))
    (l19 : K.lookup f19 = some ⟨oc19, od19, .func (PySem.W.fnOf "_law_due" "_law_due" (defArgs s_Ldue) (defBody s_Ldue) (defScope s_Ldue) .none kV19 dc19 pm19 an19 cd19 ct19), sl19⟩)
    (c19 : PySem.W.codeIn K cd19 "_law_due" = true)
    (k19 : PySem.W.keepIn K (.ref f19) = true)
    (a20 : PySem.W.nsIn K mainGlobals "_law_told" = some (some (.ref f20)))
    (l20 : K.lookup f20 = some ⟨oc20, od20, .func (PySem.W.fnOf "_law_told" "_law_told" (defArgs s_Ltold) (defBody s_Ltold) (defScope s_Ltold) .none kV20 dc20 pm20 an20 cd20 ct20), sl20⟩)
    (c20 : PySem.W.codeIn K cd20 "_law_told" = true)
    (k20 : PySem.W.keepIn K (.ref f20) = true)
    (a21 : PySem.W.nsIn K mainGlobals "_law_other_yard" = some (some (.ref f21)))
    (l21 : K.lookup f21 = some ⟨oc21, od21, .func (PySem.W.fnOf "_law_other_yard" "_law_other_yard" (defArgs s_Lotheryard) (defBody s_Lotheryard) (defScope s_Lotheryard) .none kV21 dc21 pm21 an21 cd21 ct21), sl21⟩)
    (c21 : PySem.W.codeIn K cd21 "_law_other_yard" = true)
    (k21 : PySem.W.keepIn K (.ref f21) = true)
    (a22 : PySem.W.nsIn K mainGlobals "_law_wanted" = some (some (.ref f22)))
    (l22 : K.lookup f22 = some ⟨oc22, od22, .func (PySem.W.fnOf "_law_wanted" "_law_wanted" (defArgs s_Lwanted) (defBody s_Lwanted) (defScope s_Lwanted) .none kV22 dc22 pm22 an22 cd22 ct22), sl22⟩)
    (c22 : PySem.W.codeIn K cd22 "_law_wanted" = true)
    (k22 : PySem.W.keepIn K (.ref f22) = true)
    (a23 : PySem.W.nsIn K mainGlobals "law" = some (some (.ref f23)))
    (l23 : K.lookup f23 = some ⟨oc23, od23, .func (PySem.W.fnOf "law" "law" (defArgs s_law) (defBody s_law) (defScope s_law) .none kV23 dc23 pm23 an23 cd23 ct23), sl23⟩)
    (c23 : PySem.W.codeIn K cd23 "law" = true)
    (k23 : PySem.W.keepIn K (.ref f23) = true)
    (q_NoDrawing : PySem.W.nsIn K mainGlobals "NoDrawing" = some (some (.ref c_NoDrawing)))
    (q_MeetError : PySem.W.nsIn K mainGlobals "MeetError" = some (some (.ref c_MeetError)))
    (q_NoCut : PySem.W.nsIn K mainGlobals "NoCut" = some (some (.ref c_NoCut)))
    (q_NoDeed : PySem.W.nsIn K mainGlobals "NoDeed" = some (some (.ref c_NoDeed)))
    (q_NoName : PySem.W.nsIn K mainGlobals "NoName" = some (some (.ref c_NoName)))
    (q_NoPaper : PySem.W.nsIn K mainGlobals "NoPaper" = some (some (.ref c_NoPaper)))
    (q_NoRow : PySem.W.nsIn K mainGlobals "NoRow" = some (some (.ref c_NoRow)))
    (q_NoText : PySem.W.nsIn K mainGlobals "NoText" = some (some (.ref c_NoText)))
    (q_NoWord : PySem.W.nsIn K mainGlobals "NoWord" = some (some (.ref c_NoWord)))
    (q_NoYard : PySem.W.nsIn K mainGlobals "NoYard" = some (some (.ref c_NoYard)))
    (q_NotApart : PySem.W.nsIn K mainGlobals "NotApart" = some (some (.ref c_NotApart)))
    (q_NotLone : PySem.W.nsIn K mainGlobals "NotLone" = some (some (.ref c_NotLone)))
    (q_TooLong : PySem.W.nsIn K mainGlobals "TooLong" = some (some (.ref c_TooLong)))
    (q_Twice : PySem.W.nsIn K mainGlobals "Twice" = some (some (.ref c_Twice)))
    (xis_NoDrawing : xIn K c_NoDrawing = true)
    (xga_NoDrawing : PySem.W.findIn K (.ref c_NoDrawing) "__getattribute__" = some (some (.builtin "BaseException.__getattribute__")))
    (xgh_NoDrawing : PySem.W.findIn K (.ref c_NoDrawing) "__getattr__" = some none)
    (xsa_NoDrawing : PySem.W.findIn K (.ref c_NoDrawing) "__setattr__" = some (some (.builtin "object.__setattr__")))
    (xcl_NoDrawing : PySem.W.findIn K (.ref c_NoDrawing) "__class__" = some (some (.builtin "object.__class__")))
    (xcg_NoDrawing : PySem.W.specialIn K (.builtin "object.__class__") "__get__" = some (some (.builtin "getset_descriptor.__get__")))
    (xct_NoDrawing : PySem.W.takesIn K (.builtin "object.__class__") = some true)
    (xob_NoDrawing : PySem.W.mroIn K c_NoDrawing (.type "object") = some true)
    (xkp_NoDrawing : PySem.W.keepIn K (.ref c_NoDrawing) = true)
    (r_NoDrawing : PySem.W.mroIn K c_NoDrawing (.ref c_MeetError) = some true)
    (xis_MeetError : xIn K c_MeetError = true)
    (xga_MeetError : PySem.W.findIn K (.ref c_MeetError) "__getattribute__" = some (some (.builtin "BaseException.__getattribute__")))
    (xgh_MeetError : PySem.W.findIn K (.ref c_MeetError) "__getattr__" = some none)
    (xsa_MeetError : PySem.W.findIn K (.ref c_MeetError) "__setattr__" = some (some (.builtin "object.__setattr__")))
    (xcl_MeetError : PySem.W.findIn K (.ref c_MeetError) "__class__" = some (some (.builtin "object.__class__")))
    (xcg_MeetError : PySem.W.specialIn K (.builtin "object.__class__") "__get__" = some (some (.builtin "getset_descriptor.__get__")))
    (xct_MeetError : PySem.W.takesIn K (.builtin "object.__class__") = some true)
    (xob_MeetError : PySem.W.mroIn K c_MeetError (.type "object") = some true)
    (xkp_MeetError : PySem.W.keepIn K (.ref c_MeetError) = true)
    (qi_NoDrawing : PySem.W.findIn K (.ref c_NoDrawing) "__init__" = some (some (.ref g_NoDrawing)))
    (fi_NoDrawing : PySem.W.isFn K (.ref g_NoDrawing) = true)
    (li_NoDrawing : K.lookup g_NoDrawing = some ⟨oc_NoDrawing, od_NoDrawing, .func (PySem.W.fnOf "__init__" "NoDrawing.__init__" (defArgs s_i_NoDrawing) (defBody s_i_NoDrawing) (defScope s_i_NoDrawing) .none kV_NoDrawing dc_NoDrawing pm_NoDrawing an_NoDrawing cd_NoDrawing ct_NoDrawing), sl_NoDrawing⟩)
    (ci_NoDrawing : PySem.W.codeIn K cd_NoDrawing "NoDrawing.__init__" = true)
    (ki_NoDrawing : PySem.W.keepIn K (.ref g_NoDrawing) = true)
    (n_NoDrawing_word : PySem.W.findIn K (.ref c_NoDrawing) "word" = some none)
    (n_NoDrawing_at : PySem.W.findIn K (.ref c_NoDrawing) "at" = some none)
    (xbr : PySem.W.readsIn K c_MeetError (.type "type") = true)
    (xbg : PySem.W.specialIn K (.ref c_MeetError) "__getattribute__" = some (some (.builtin "type.__getattribute__")))
    (xbf : PySem.W.findCls K (.ref c_MeetError) (.type "type") "__init__" = some (.val (.builtin "ValueError.__init__")))
    (k_NoDrawing_NoCut : PySem.W.kitOne K (.ref c_NoDrawing) (.ref c_NoCut) = some false)
    (k_NoDrawing_NoDeed : PySem.W.kitOne K (.ref c_NoDrawing) (.ref c_NoDeed) = some false)
    (k_NoDrawing_NoName : PySem.W.kitOne K (.ref c_NoDrawing) (.ref c_NoName) = some false)
    (k_NoDrawing_NoPaper : PySem.W.kitOne K (.ref c_NoDrawing) (.ref c_NoPaper) = some false)
    (k_NoDrawing_NoRow : PySem.W.kitOne K (.ref c_NoDrawing) (.ref c_NoRow) = some false)
    (k_NoDrawing_NoText : PySem.W.kitOne K (.ref c_NoDrawing) (.ref c_NoText) = some false)
    (k_NoDrawing_NoWord : PySem.W.kitOne K (.ref c_NoDrawing) (.ref c_NoWord) = some false)
    (k_NoDrawing_NoYard : PySem.W.kitOne K (.ref c_NoDrawing) (.ref c_NoYard) = some false)
    (k_NoDrawing_NotApart : PySem.W.kitOne K (.ref c_NoDrawing) (.ref c_NotApart) = some false)
    (k_NoDrawing_NotLone : PySem.W.kitOne K (.ref c_NoDrawing) (.ref c_NotLone) = some false)
    (k_NoDrawing_TooLong : PySem.W.kitOne K (.ref c_NoDrawing) (.ref c_TooLong) = some false)
    (k_NoDrawing_Twice : PySem.W.kitOne K (.ref c_NoDrawing) (.ref c_Twice) = some false)
    (k_NoDrawing_NoDrawing : PySem.W.kitOne K (.ref c_NoDrawing) (.ref c_NoDrawing) = some true)
    (k_NoDrawing_ValueError : PySem.W.kitOne K (.ref c_NoDrawing) (.type "ValueError") = some true)
    (z_ValueError : PySem.W.nsIn K mainGlobals "ValueError" = some none)
    (z_enumerate : PySem.W.nsIn K mainGlobals "enumerate" = some none)
    (z_int : PySem.W.nsIn K mainGlobals "int" = some none)
    (z_isinstance : PySem.W.nsIn K mainGlobals "isinstance" = some none)
    (z_len : PySem.W.nsIn K mainGlobals "len" = some none)
    (z_list : PySem.W.nsIn K mainGlobals "list" = some none)
    (z_max : PySem.W.nsIn K mainGlobals "max" = some none)
    (z_min : PySem.W.nsIn K mainGlobals "min" = some none)
    (z_range : PySem.W.nsIn K mainGlobals "range" = some none)
    (z_repr : PySem.W.nsIn K mainGlobals "repr" = some none)
    (z_sorted : PySem.W.nsIn K mainGlobals "sorted" = some none)
    (z_tuple : PySem.W.nsIn K mainGlobals "tuple" = some none) :
    ∃ fd : FuncData, (∀ (s : Shared) (v : Value), BindsTo s fd ⟨[v], []⟩ [("_law_script", v)]) /\ ∀ base : Heap, K.In base -> base.Ns mainGlobals mg -> FnOk l.prog w K mg base CX0 6 fa fd ["_law_script"] (sp_law K) := by
  have e := hfa.symm.trans (PySem.W.mg_of X G a23)
  cases e
  have F0 := fun_mk (st := s_foreign_sign) l0 c0 k0
  have b0 := F0.binds (ps := ["yard", "text"]) fun _ _ _ _ _ _ => us_s fun _ => us_s fun _ => us_z rfl
  have F1 := fun_mk (st := s_bands) l1 c1 k1
  have b1 := F1.binds (ps := ["yard"]) fun _ _ _ _ _ _ => us_s fun _ => us_z rfl
  have F2 := fun_mk (st := s_strands_in) l2 c2 k2
  have b2 := F2.binds (ps := ["words", "band"]) fun _ _ _ _ _ _ => us_s fun _ => us_s fun _ => us_z rfl
  have F3 := fun_mk (st := s_look_words) l3 c3 k3
  have b3 := F3.binds (ps := ["yard", "words"]) fun _ _ _ _ _ _ => us_s fun _ => us_s fun _ => us_z rfl
  have F4 := fun_mk (st := s_look_orders) l4 c4 k4
  have b4 := F4.binds (ps := ["yard", "words", "orders"]) fun _ _ _ _ _ _ => us_s fun _ => us_s fun _ => us_s fun _ => us_z rfl
  have F5 := fun_mk (st := s_look_drawing) l5 c5 k5
  have b5 := F5.binds (ps := ["yard", "drawing"]) fun _ _ _ _ _ _ => us_s fun _ => us_s fun _ => us_z rfl
  have F6 := fun_mk (st := s_Lbox) l6 c6 k6
  have b6 := F6.binds (ps := ["_law_script", "_law_k"]) fun _ _ _ _ _ _ => us_s fun _ => us_s fun _ => us_z rfl
  have F7 := fun_mk (st := s_Ltake) l7 c7 k7
  have b7 := F7.binds (ps := ["_law_box_here", "_law_many"]) fun _ _ _ _ _ _ => us_s fun _ => us_s fun _ => us_z rfl
  have F8 := fun_mk (st := s_Lother) l8 c8 k8
  have b8 := F8.binds (ps := ["_law_letter"]) fun _ _ _ _ _ _ => us_s fun _ => us_z rfl
  have F9 := fun_mk (st := s_Lyard) l9 c9 k9
  have b9 := F9.binds (ps := ["_law_box_here", "_law_few", "_law_top"]) fun _ _ _ _ _ _ => us_s fun _ => us_s fun _ => us_s fun _ => us_z rfl
  have F10 := fun_mk (st := s_Lword) l10 c10 k10
  have b10 := F10.binds (ps := ["_law_box_here", "_law_yard_here", "_law_top"]) fun _ _ _ _ _ _ => us_s fun _ => us_s fun _ => us_s fun _ => us_z rfl
  have F11 := fun_mk (st := s_Lorder) l11 c11 k11
  have b11 := F11.binds (ps := ["_law_box_here", "_law_things"]) fun _ _ _ _ _ _ => us_s fun _ => us_s fun _ => us_z rfl
  have F12 := fun_mk (st := s_Lbands) l12 c12 k12
  have b12 := F12.binds (ps := ["_law_yard_here"]) fun _ _ _ _ _ _ => us_s fun _ => us_z rfl
  have F13 := fun_mk (st := s_Ldrawing) l13 c13 k13
  have b13 := F13.binds (ps := ["_law_box_here", "_law_yard_here", "_law_words_here"]) fun _ _ _ _ _ _ => us_s fun _ => us_s fun _ => us_s fun _ => us_z rfl
  have F14 := fun_mk (st := s_Lwords) l14 c14 k14
  have b14 := F14.binds (ps := ["_law_box_here", "_law_yard_here"]) fun _ _ _ _ _ _ => us_s fun _ => us_s fun _ => us_z rfl
  have F15 := fun_mk (st := s_Lstrands) l15 c15 k15
  have b15 := F15.binds (ps := ["_law_words_here", "_law_band"]) fun _ _ _ _ _ _ => us_s fun _ => us_s fun _ => us_z rfl
  have F16 := fun_mk (st := s_Lsign) l16 c16 k16
  have b16 := F16.binds (ps := ["_law_box_here", "_law_yard_here"]) fun _ _ _ _ _ _ => us_s fun _ => us_s fun _ => us_z rfl
  have F17 := fun_mk (st := s_Lorderotherwise) l17 c17 k17
  have b17 := F17.binds (ps := ["_law_box_here", "_law_order_here"]) fun _ _ _ _ _ _ => us_s fun _ => us_s fun _ => us_z rfl
  have F18 := fun_mk (st := s_Lotherwise) l18 c18 k18
  have b18 := F18.binds (ps := ["_law_box_here", "_law_yard_here", "_law_drawing_here"]) fun _ _ _ _ _ _ => us_s fun _ => us_s fun _ => us_s fun _ => us_z rfl
  have F19 := fun_mk (st := s_Ldue) l19 c19 k19
  have b19 := F19.binds (ps := ["_law_yard_here", "_law_drawing_here"]) fun _ _ _ _ _ _ => us_s fun _ => us_s fun _ => us_z rfl
  have F20 := fun_mk (st := s_Ltold) l20 c20 k20
  have b20 := F20.binds (ps := ["_law_yard_here", "_law_drawing_here"]) fun _ _ _ _ _ _ => us_s fun _ => us_s fun _ => us_z rfl
  have F21 := fun_mk (st := s_Lotheryard) l21 c21 k21
  have b21 := F21.binds (ps := ["_law_box_here", "_law_yard_here"]) fun _ _ _ _ _ _ => us_s fun _ => us_s fun _ => us_z rfl
  have F22 := fun_mk (st := s_Lwanted) l22 c22 k22
  have b22 := F22.binds (ps := ["_law_yard_here", "_law_drawing_here"]) fun _ _ _ _ _ _ => us_s fun _ => us_s fun _ => us_z rfl
  have F23 := fun_mk (st := s_law) l23 c23 k23
  have b23 := F23.binds (ps := ["_law_script"]) fun _ _ _ _ _ _ => us_s fun _ => us_z rfl
  have FI_NoDrawing := fun_mk (st := s_i_NoDrawing) li_NoDrawing ci_NoDrawing ki_NoDrawing
  have bI_NoDrawing := FI_NoDrawing.binds (ps := ["self", "word", "at"]) fun _ _ _ _ _ _ => us_s fun _ => us_s fun _ => us_s fun _ => us_z rfl
  have T : Txt K mg _ _ _ _ _ _ _ _ _ _ _ _ _ _ _ _ _ _ _ _ _ _ _ _ _ _ _ _ _ _ _ _ _ _ _ _ _ _ _ _ _ _ _ _ _ _ _ _ _ _ _ _ _ _ _ _ _ _ _ _ _ _ _ _ := ⟨⟨F0, PySem.W.mg_of X G a0, b0⟩, ⟨F1, PySem.W.mg_of X G a1, b1⟩, ⟨F2, PySem.W.mg_of X G a2, b2⟩, ⟨F3, PySem.W.mg_of X G a3, b3⟩, ⟨F4, PySem.W.mg_of X G a4, b4⟩, ⟨F5, PySem.W.mg_of X G a5, b5⟩, ⟨F6, PySem.W.mg_of X G a6, b6⟩, ⟨F7, PySem.W.mg_of X G a7, b7⟩, ⟨F8, PySem.W.mg_of X G a8, b8⟩, ⟨F9, PySem.W.mg_of X G a9, b9⟩, ⟨F10, PySem.W.mg_of X G a10, b10⟩, ⟨F11, PySem.W.mg_of X G a11, b11⟩, ⟨F12, PySem.W.mg_of X G a12, b12⟩, ⟨F13, PySem.W.mg_of X G a13, b13⟩, ⟨F14, PySem.W.mg_of X G a14, b14⟩, ⟨F15, PySem.W.mg_of X G a15, b15⟩, ⟨F16, PySem.W.mg_of X G a16, b16⟩, ⟨F17, PySem.W.mg_of X G a17, b17⟩, ⟨F18, PySem.W.mg_of X G a18, b18⟩, ⟨F19, PySem.W.mg_of X G a19, b19⟩, ⟨F20, PySem.W.mg_of X G a20, b20⟩, ⟨F21, PySem.W.mg_of X G a21, b21⟩, ⟨F22, PySem.W.mg_of X G a22, b22⟩, ⟨F23, PySem.W.mg_of X G a23, b23⟩, PySem.W.mg_of X G q_NoDrawing, PySem.W.mg_of X G q_MeetError, PySem.W.mg_of X G q_NoCut, PySem.W.mg_of X G q_NoDeed, PySem.W.mg_of X G q_NoName, PySem.W.mg_of X G q_NoPaper, PySem.W.mg_of X G q_NoRow, PySem.W.mg_of X G q_NoText, PySem.W.mg_of X G q_NoWord, PySem.W.mg_of X G q_NoYard, PySem.W.mg_of X G q_NotApart, PySem.W.mg_of X G q_NotLone, PySem.W.mg_of X G q_TooLong, PySem.W.mg_of X G q_Twice, ⟨xis_NoDrawing, xga_NoDrawing, xgh_NoDrawing, xsa_NoDrawing, xcl_NoDrawing, xcg_NoDrawing, xct_NoDrawing, xob_NoDrawing, xkp_NoDrawing⟩, r_NoDrawing, ⟨xis_MeetError, xga_MeetError, xgh_MeetError, xsa_MeetError, xcl_MeetError, xcg_MeetError, xct_MeetError, xob_MeetError, xkp_MeetError⟩, ⟨⟨xis_NoDrawing, xga_NoDrawing, xgh_NoDrawing, xsa_NoDrawing, xcl_NoDrawing, xcg_NoDrawing, xct_NoDrawing, xob_NoDrawing, xkp_NoDrawing⟩, qi_NoDrawing, fi_NoDrawing⟩, FI_NoDrawing, bI_NoDrawing, n_NoDrawing_word, n_NoDrawing_at, ⟨xbr, xbg, xbf⟩, k_NoDrawing_NoCut, k_NoDrawing_NoDeed, k_NoDrawing_NoName, k_NoDrawing_NoPaper, k_NoDrawing_NoRow, k_NoDrawing_NoText, k_NoDrawing_NoWord, k_NoDrawing_NoYard, k_NoDrawing_NotApart, k_NoDrawing_NotLone, k_NoDrawing_TooLong, k_NoDrawing_Twice, k_NoDrawing_NoDrawing, k_NoDrawing_ValueError, PySem.W.mg_none_of X G z_ValueError, PySem.W.mg_none_of X G z_enumerate, PySem.W.mg_none_of X G z_int, PySem.W.mg_none_of X G z_isinstance, PySem.W.mg_none_of X G z_len, PySem.W.mg_none_of X G z_list, PySem.W.mg_none_of X G z_max, PySem.W.mg_none_of X G z_min, PySem.W.mg_none_of X G z_range, PySem.W.mg_none_of X G z_repr, PySem.W.mg_none_of X G z_sorted, PySem.W.mg_none_of X G z_tuple⟩
  exact ⟨_, fun s v => .of_eq rfl, fun base _ _ => ok_law T⟩
theorem walk {l : PySem.W.OpenLaw} {q : Program} {loose : List Str} {XP : (Str -> Option Value) -> Heap -> Prop} {YP : World -> Heap -> Prop} {d : DefRec} {K : Params -> PySem.W.Frag} (hn : l.most = some 63) (hdf : d.params.defaults = [])
    (hY : ∀ (w : World) (h : Heap), YP w h -> (K w.params).In h)
    (F : ∀ (w : World) (mg : Str -> Option Value) (fa : Addr) (h : Heap), (K w.params).In h -> h.Ns mainGlobals mg -> mg d.name = some (.ref fa) ->
      ∃ fd : FuncData, (∀ (s : Shared) (u : Value), BindsTo s fd ⟨[u], []⟩ [("_law_script", u)]) /\ ∀ base : Heap, (K w.params).In base -> base.Ns mainGlobals mg -> FnOk l.prog w (K w.params) mg base CX0 6 fa fd ["_law_script"] (sp_law (K w.params))) :
    PySem.W.WalkO q loose XP YP l.row.toRowW d [] (fun f vs => PySem.call f vs) :=
  L2.walk_of (n := 63) (k := 6) (x := "_law_script") (CX := fun _ => CX0) (sp := fun w => sp_law (K w.params)) hn (by decide) hdf ⟨rfl, by decide, by decide, rfl⟩ hY F (fun _ _ a ns hl _ hS => ⟨a, ns, rfl, hS, hl, fun _ => rfl⟩) fun _ _ _ _ _ z => z
end My
namespace PySem.W.Fast
def tw10027574196670977220:=0
def tw10042847663239779342:=0
def tw10095282972605645134:=0
def tw10124854710882142926:=0
def tw10206936432691355851:=0
def tw10364666507049214163:=0
def tw10374025350576011908:=0
def tw10395471137561608597:=0
def tw10438328038218928723:=0
def tw10438658909745296747:=0
def tw10490970333712117520:=0
def tw10550964516364325426:=0
def tw10611245320541404891:=0
def tw10663600428583304957:=0
def tw10664161888263297322:=0
def tw1072823273947582213:=0
def tw10855868920385190140:=0
def tw10868050378592756527:=0
def tw10928915459612977967:=0
def tw10960542278649890512:=0
def tw10968740921892772580:=0
def tw10996805196861259836:=0
def tw11002385931385235464:=0
def tw1103550332652392702:=0
def tw11181496199323839948:=0
def tw1132561284457341359:=0
def tw11332581938165196437:=0
def tw11393117546064927800:=0
def tw11409975546934779403:=0
def tw11603191501991220954:=0
def tw1163078803243894148:=0
def tw11664855831246948901:=0
def tw11701399804972573193:=0
def tw11710426281115222001:=0
def tw11729559443460140629:=0
def tw11731871403312868211:=0
def tw11758122872775687791:=0
def tw11800316232739902957:=0
def tw11882925700498071959:=0
def tw11916825106132334170:=0
def tw11943114901767872524:=0
def tw12002140589926060357:=0
def tw12009691398254368505:=0
def tw12037024879156546196:=0
def tw12039046421167967076:=0
def tw12195716373731932711:=0
def tw12241168586732119155:=0
def tw12242948694573789407:=0
def tw12263781065981956113:=0
def tw12279733024798103087:=0
def tw12332882954279994398:=0
def tw12350098928253532004:=0
def tw12351089752090117205:=0
def tw12444151489112702918:=0
def tw12460099298982064780:=0
def tw12486454764930153254:=0
def tw12625922113397889386:=0
def tw12653485753844207177:=0
def tw12653848046748658829:=0
def tw12664990456672578915:=0
def tw1267133894409160891:=0
def tw12863852020967508765:=0
def tw12867526919341743440:=0
def tw12887207367306677136:=0
def tw12924230499971093505:=0
def tw12994894446370662116:=0
def tw13008459874860742570:=0
def tw13105959187279446096:=0
def tw13117903316370477732:=0
def tw13230627686015299901:=0
def tw1334943527471588103:=0
def tw13405630954830759081:=0
def tw13464889346462381775:=0
def tw13522088467681908891:=0
def tw13576087368980002524:=0
def tw13590957588146386911:=0
def tw13604146807901347755:=0
def tw13626041417328341833:=0
def tw13722083929883157326:=0
def tw13800386509682033721:=0
def tw13824761494288529669:=0
def tw13829123001301998100:=0
def tw13880497591460732699:=0
def tw13910910711872649630:=0
def tw13914215823804566553:=0
def tw13943563244298127326:=0
def tw13992079025392390729:=0
def tw14008684347990918414:=0
def tw14029798528614108444:=0
def tw14039038149240215381:=0
def tw14076210370913697425:=0
def tw14082799383502290535:=0
def tw14084372350854799494:=0
def tw14150537833580644875:=0
def tw14159352805300983451:=0
def tw14183078600579489212:=0
def tw14201209202777816333:=0
def tw14237916240886699728:=0
def tw14255999228342327225:=0
def tw14272395919782685804:=0
def tw14284515875047879242:=0
def tw14310643490651579754:=0
def tw14318216529441157775:=0
def tw14363361521879961471:=0
def tw14399806698911113736:=0
def tw14413036904310526287:=0
def tw14442885650931727981:=0
def tw14451850052880682118:=0
def tw14485019902745219874:=0
def tw14599188942913642141:=0
def tw14781708405888718686:=0
def tw14826164825985930101:=0
def tw14979866907583826331:=0
def tw15023476813703773729:=0
def tw15097548434374680174:=0
def tw15100351964367295669:=0
def tw15101605541641792795:=0
def tw1511969544298703098:=0
def tw15119767215070582577:=0
def tw15166607408975988538:=0
def tw15211951074001329750:=0
def tw1524698030536273620:=0
def tw15255661063227809975:=0
def tw15317221763370335430:=0
def tw15341317208981438621:=0
def tw15360506626056558237:=0
def tw15391293620746078101:=0
def tw15391671581519812380:=0
def tw15462901300729982392:=0
def tw15486359135483505083:=0
def tw15535634948186176009:=0
def tw15602136310377792612:=0
def tw15616051671176310985:=0
def tw15714618091311620335:=0
def tw15818562681457244648:=0
def tw15829341482286132906:=0
def tw15913487994168792444:=0
def tw1591929416546525062:=0
def tw15927883936568537455:=0
def tw16000380621335332799:=0
def tw16000963400456420218:=0
def tw16014042281463549529:=0
def tw16054768440882425897:=0
def tw1609708251413973260:=0
def tw1610389915081393269:=0
def tw16187091747234074925:=0
def tw16191794915290946663:=0
def tw16317629110382713312:=0
def tw1637569793239219402:=0
def tw16385935556864937958:=0
def tw16401816487098703843:=0
def tw16432699954159916100:=0
def tw16443762020184017194:=0
def tw16461453404656120847:=0
def tw16604159033446758161:=0
def tw16612424379920057408:=0
def tw16656783050449327811:=0
def tw16660940297237795060:=0
def tw16662331450645761247:=0
def tw16705786875802036473:=0
def tw16720774218986366220:=0
def tw16757873271731484438:=0
def tw16783794850566736942:=0
def tw16786663716416174711:=0
def tw16863936052001967148:=0
def tw16868484702536755835:=0
def tw16889292375567873553:=0
def tw16901719822688998053:=0
def tw16936063701545053233:=0
def tw17029626075554171897:=0
def tw17031677687872039873:=0
def tw17032516990416334760:=0
def tw17105766649990673630:=0
def tw1713340079370555604:=0
def tw17200838188872836176:=0
def tw17211571990058663809:=0
def tw17212909506831280934:=0
def tw17224372986883382551:=0
def tw17283628762717560958:=0
def tw17288013845477879543:=0
def tw17299168643954268772:=0
def tw17307541690699327407:=0
def tw17372508795314887965:=0
def tw17376791870756667673:=0
def tw17499418545149785837:=0
def tw17527125364778766340:=0
def tw1757544653604558141:=0
def tw17578205156003984631:=0
def tw17672184699845081533:=0
def tw17684178520436062629:=0
def tw17692651245968710617:=0
def tw17769822857122506066:=0
def tw17783385891888149555:=0
def tw17911856194535469688:=0
def tw17922387027107987236:=0
def tw17927336178085561515:=0
def tw18020003883735925089:=0
def tw18083607635462888144:=0
def tw18131251586724397842:=0
def tw18175665013295668262:=0
def tw1823300257157175490:=0
def tw18298351096745838349:=0
def tw18330511430099021611:=0
def tw18337694793916158394:=0
def tw1840615384621562667:=0
def tw1842721165801292443:=0
def tw1871589321270145743:=0
def tw1902748547049665593:=0
def tw2016699330286122793:=0
def tw2081388144473868473:=0
def tw2113128802612372998:=0
def tw2171790760477909931:=0
def tw2220131142436664540:=0
def tw2225693881900914579:=0
def tw225781772566951455:=0
def tw2279009768679501048:=0
def tw2282960748157734448:=0
def tw2304509036476930327:=0
def tw2310163326332571204:=0
def tw2357509991759700150:=0
def tw2573919475533284149:=0
def tw2588944407382528121:=0
def tw2667078433548250420:=0
def tw2667728268374388389:=0
def tw2686908895714448442:=0
def tw2707978685297060495:=0
def tw2709937493381064197:=0
def tw274338305489429953:=0
def tw2756856458458529963:=0
def tw2781958068940428644:=0
def tw2804350624714919381:=0
def tw2810004185291126588:=0
def tw2813037627270784985:=0
def tw2816858204316916045:=0
def tw2840861554596693042:=0
def tw2885417980068566035:=0
def tw289045775416637941:=0
def tw2905498876608105715:=0
def tw2930707157748155974:=0
def tw2991763817072282029:=0
def tw2994214396332174660:=0
def tw2994267516899806797:=0
def tw3021117050526757774:=0
def tw3028414965980839186:=0
def tw3050802463466539533:=0
def tw3070671632315798896:=0
def tw3090442226277612330:=0
def tw310785642103454401:=0
def tw3119023144556872411:=0
def tw3131409254541067571:=0
def tw3201743226225079076:=0
def tw329401751017720812:=0
def tw330025736274559722:=0
def tw331818096353142422:=0
def tw3359855533930374429:=0
def tw3383748280583925938:=0
def tw3385803443944037557:=0
def tw3513338375777796308:=0
def tw3605022640467086159:=0
def tw3624375444123058036:=0
def tw3692078617254921104:=0
def tw3806686767132058453:=0
def tw3837023172323275385:=0
def tw3842791039202485650:=0
def tw3852127689926063076:=0
def tw3853545100928347968:=0
def tw3905098500379845278:=0
def tw4092472499116992737:=0
def tw4107938951490118330:=0
def tw4136432906155410378:=0
def tw418836898488794519:=0
def tw4237911421294625719:=0
def tw4297838699967242187:=0
def tw4300518968503117238:=0
def tw4362604081234840420:=0
def tw4436495056249333814:=0
def tw4507393333166871622:=0
def tw4517112816126449712:=0
def tw4546882154426833283:=0
def tw467791054404651269:=0
def tw4776770759901823881:=0
def tw4820067584724935778:=0
def tw4910988992818962266:=0
def tw4927200533337901338:=0
def tw4945373495289601265:=0
def tw5022543035315317226:=0
def tw5077756392094990275:=0
def tw5176204822661043247:=0
def tw518822505637358336:=0
def tw5250720295523195202:=0
def tw5257586290901775493:=0
def tw5281662698453489448:=0
def tw5306663176991533093:=0
def tw5310470379578190043:=0
def tw532326064804352026:=0
def tw5359158188663453046:=0
def tw5558704623166379077:=0
def tw5574513313432441300:=0
def tw5592425854113331096:=0
def tw5596738223749886004:=0
def tw5599688683214364971:=0
def tw564463225438870671:=0
def tw5649276503463061148:=0
def tw5694216418757773168:=0
def tw5800724311372523583:=0
def tw5817155037271713593:=0
def tw5837102109971216320:=0
def tw5841906300744662084:=0
def tw5885255461900153270:=0
def tw5938021554356173180:=0
def tw5954766848571168444:=0
def tw5972334482091893319:=0
def tw5976365045426907728:=0
def tw6015072069034635109:=0
def tw6103527736728823819:=0
def tw6105119734916845060:=0
def tw6114064600012047898:=0
def tw6187839743201209514:=0
def tw6232252477621224875:=0
def tw623543225078166287:=0
def tw6236929558725143536:=0
def tw6255840236785436920:=0
def tw6271024442297013279:=0
def tw6365957063139475308:=0
def tw6368095313142617606:=0
def tw6488660261174163149:=0
def tw64951285412064867:=0
def tw6576270128375160274:=0
def tw6596701793786850978:=0
def tw6607371207594984801:=0
def tw6611591561861740529:=0
def tw663212648214906266:=0
def tw6648011736449225843:=0
def tw6687216607027471113:=0
def tw6741076538309268283:=0
def tw6758523402617461794:=0
def tw6795097347963652477:=0
def tw6828898999406843628:=0
def tw6962947158124428122:=0
def tw7124942083864386833:=0
def tw7254296653092237392:=0
def tw7319190800238685421:=0
def tw7328142602999023424:=0
def tw735272187349004201:=0
def tw7366773715338316264:=0
def tw7382487900439247168:=0
def tw7396144786907115828:=0
def tw7402528056252179461:=0
def tw7443947977218436705:=0
def tw7447786437329780817:=0
def tw7455671073865672068:=0
def tw7472661833636920171:=0
def tw749968844255187433:=0
def tw7503245431572570756:=0
def tw7515989571863676334:=0
def tw7614419265589251346:=0
def tw7695253648123793026:=0
def tw7833545377865171521:=0
def tw7851736013460089164:=0
def tw7885937858076158025:=0
def tw7906022727655350934:=0
def tw7941531053928770410:=0
def tw7968959097833196970:=0
def tw8077978213214897239:=0
def tw8078671054886088787:=0
def tw8086629955898661943:=0
def tw8169352360231912605:=0
def tw8243499151267064035:=0
def tw8245601281486005296:=0
def tw824651190589242322:=0
def tw8310591560796280912:=0
def tw8337001800459663257:=0
def tw8367782864193626027:=0
def tw8374191934113254662:=0
def tw8539613113794584262:=0
def tw8574801768350078297:=0
def tw8844336740268998871:=0
def tw88642389592576173:=0
def tw8928164744110136783:=0
def tw8963181352493098933:=0
def tw8981303935181811946:=0
def tw8983416193785302408:=0
def tw8987384588311873360:=0
def tw8996009709572303213:=0
def tw907949283619166407:=0
def tw9090154196892810375:=0
def tw9150631323963382872:=0
def tw9186527160199065554:=0
def tw9255257187988512880:=0
def tw9279790360142580842:=0
def tw929076169289945101:=0
def tw9296313087400812436:=0
def tw9342247276963174169:=0
def tw9398426332362208555:=0
def tw9421353107990840533:=0
def tw9459583174381211129:=0
def tw9475994621336479913:=0
def tw9484929966299938620:=0
def tw9540397871821004204:=0
def tw9670890766043752382:=0
def tw9747804824583654337:=0
def tw9749123385648920525:=0
def tw9766543732442800327:=0
def tw9806893992893802602:=0
def tw9813444594809424472:=0
def tw9850349131818979340:=0
def tw9879656199398600513:=0
def tw9930197703702180898:=0
def tw9946430038799650397:=0
def tw994841014133054022:=0
def tw9952753539139711811:=0
end PySem.W.Fast
open PySem PySem.W PyProof.Rows
set_option maxRecDepth 100000 in
set_option maxHeartbeats 0 in
theorem PySem.Challenge.cw_mustmeet_k13_drawings_looked_at_holds : PySem.Challenge.rw_mustmeet_k13_drawings_looked_at.Holds := by
  w_on; o_law; k_head; (case hw => w_witness2)
  k_fill
  refine My.walk (l := PySem.Challenge.rw_mustmeet_k13_drawings_looked_at) rfl rfl (fun w h Y => PySem.W.kIn_of Y) ?F
  case F =>
    intro w mg fa h KX G hmg
    refine' My.all_mk KX G hmg ?a0 ?l0 ?c0 ?k0 ?a1 ?l1 ?c1 ?k1 ?a2 ?l2 ?c2 ?k2 ?a3 ?l3 ?c3 ?k3 ?a4 ?l4 ?c4 ?k4 ?a5 ?l5 ?c5 ?k5 ?a6 ?l6 ?c6 ?k6 ?a7 ?l7 ?c7 ?k7 ?a8 ?l8 ?c8 ?k8 ?a9 ?l9 ?c9 ?k9 ?a10 ?l10 ?c10 ?k10 ?a11 ?l11 ?c11 ?k11 ?a12 ?l12 ?c12 ?k12 ?a13 ?l13 ?c13 ?k13 ?a14 ?l14 ?c14 ?k14 ?a15 ?l15 ?c15 ?k15 ?a16 ?l16 ?c16 ?k16 ?a17 ?l17 ?c17 ?k17 ?a18 ?l18 ?c18 ?k18 ?a19 ?l19 ?c19 ?k19 ?a20 ?l20 ?c20 ?k20 ?a21 ?l21 ?c21 ?k21 ?a22 ?l22 ?c22 ?k22 ?a23 ?l23 ?c23 ?k23 ?q_NoDrawing ?q_MeetError ?q_NoCut ?q_NoDeed ?q_NoName ?q_NoPaper ?q_NoRow ?q_NoText ?q_NoWord ?q_NoYard ?q_NotApart ?q_NotLone ?q_TooLong ?q_Twice ?xis_NoDrawing ?xga_NoDrawing ?xgh_NoDrawing ?xsa_NoDrawing ?xcl_NoDrawing ?xcg_NoDrawing ?xct_NoDrawing ?xob_NoDrawing ?xkp_NoDrawing ?r_NoDrawing ?xis_MeetError ?xga_MeetError ?xgh_MeetError ?xsa_MeetError ?xcl_MeetError ?xcg_MeetError ?xct_MeetError ?xob_MeetError ?xkp_MeetError ?qi_NoDrawing ?fi_NoDrawing ?li_NoDrawing ?ci_NoDrawing ?ki_NoDrawing ?n_NoDrawing_word ?n_NoDrawing_at ?xbr ?xbg ?xbf ?k_NoDrawing_NoCut ?k_NoDrawing_NoDeed ?k_NoDrawing_NoName ?k_NoDrawing_NoPaper ?k_NoDrawing_NoRow ?k_NoDrawing_NoText ?k_NoDrawing_NoWord ?k_NoDrawing_NoYard ?k_NoDrawing_NotApart ?k_NoDrawing_NotLone ?k_NoDrawing_TooLong ?k_NoDrawing_Twice ?k_NoDrawing_NoDrawing ?k_NoDrawing_ValueError ?z_ValueError ?z_enumerate ?z_int ?z_isinstance ?z_len ?z_list ?z_max ?z_min ?z_range ?z_repr ?z_sorted ?z_tuple
    (case a0 => k_is)
    (case l0 => k_is)
    (case c0 => k_is)
    (case k0 => k_is)
    (case a1 => k_is)
    (case l1 => k_is)
    (case c1 => k_is)
    (case k1 => k_is)
    (case a2 => k_is)
    (case l2 => k_is)
    (case c2 => k_is)
    (case k2 => k_is)
    (case a3 => k_is)
    (case l3 => k_is)
    (case c3 => k_is)
    (case k3 => k_is)
    (case a4 => k_is)
    (case l4 => k_is)
    (case c4 => k_is)
    (case k4 => k_is)
    (case a5 => k_is)
    (case l5 => k_is)
    (case c5 => k_is)
    (case k5 => k_is)
    (case a6 => k_is)
    (case l6 => k_is)
    (case c6 => k_is)
    (case k6 => k_is)
    (case a7 => k_is)
    (case l7 => k_is)
    (case c7 => k_is)
    (case k7 => k_is)
    (case a8 => k_is)
    (case l8 => k_is)
    (case c8 => k_is)
    (case k8 => k_is)
    (case a9 => k_is)
    (case l9 => k_is)
    (case c9 => k_is)
    (case k9 => k_is)
    (case a10 => k_is)
    (case l10 => k_is)
    (case c10 => k_is)
    (case k10 => k_is)
    (case a11 => k_is)
    (case l11 => k_is)
    (case c11 => k_is)
    (case k11 => k_is)
    (case a12 => k_is)
    (case l12 => k_is)
    (case c12 => k_is)
    (case k12 => k_is)
    (case a13 => k_is)
    (case l13 => k_is)
    (case c13 => k_is)
    (case k13 => k_is)
    (case a14 => k_is)
    (case l14 => k_is)
    (case c14 => k_is)
    (case k14 => k_is)
    (case a15 => k_is)
    (case l15 => k_is)
    (case c15 => k_is)
    (case k15 => k_is)
    (case a16 => k_is)
    (case l16 => k_is)
    (case c16 => k_is)
    (case k16 => k_is)
    (case a17 => k_is)
    (case l17 => k_is)
    (case c17 => k_is)
    (case k17 => k_is)
    (case a18 => k_is)
    (case l18 => k_is)
    (case c18 => k_is)
    (case k18 => k_is)
    (case a19 => k_is)
    (case l19 => k_is)
    (case c19 => k_is)
    (case k19 => k_is)
    (case a20 => k_is)
    (case l20 => k_is)
    (case c20 => k_is)
    (case k20 => k_is)
    (case a21 => k_is)
    (case l21 => k_is)
    (case c21 => k_is)
    (case k21 => k_is)
    (case a22 => k_is)
    (case l22 => k_is)
    (case c22 => k_is)
    (case k22 => k_is)
    (case a23 => k_is)
    (case l23 => k_is)
    (case c23 => k_is)
    (case k23 => k_is)
    (case q_NoDrawing => k_is)
    (case q_MeetError => k_is)
    (case q_NoCut => k_is)
    (case q_NoDeed => k_is)
    (case q_NoName => k_is)
    (case q_NoPaper => k_is)
    (case q_NoRow => k_is)
    (case q_NoText => k_is)
    (case q_NoWord => k_is)
    (case q_NoYard => k_is)
    (case q_NotApart => k_is)
    (case q_NotLone => k_is)
    (case q_TooLong => k_is)
    (case q_Twice => k_is)
    (case xis_NoDrawing => kernel_rfl)
    (case xga_NoDrawing => k_is)
    (case xgh_NoDrawing => k_is)
    (case xsa_NoDrawing => k_is)
    (case xcl_NoDrawing => k_is)
    (case xcg_NoDrawing => k_is)
    (case xct_NoDrawing => k_is)
    (case xob_NoDrawing => k_is)
    (case xkp_NoDrawing => k_is)
    (case r_NoDrawing => k_is)
    (case xis_MeetError => kernel_rfl)
    (case xga_MeetError => k_is)
    (case xgh_MeetError => k_is)
    (case xsa_MeetError => k_is)
    (case xcl_MeetError => k_is)
    (case xcg_MeetError => k_is)
    (case xct_MeetError => k_is)
    (case xob_MeetError => k_is)
    (case xkp_MeetError => k_is)
    (case qi_NoDrawing => k_is)
    (case fi_NoDrawing => k_is)
    (case li_NoDrawing => k_is)
    (case ci_NoDrawing => k_is)
    (case ki_NoDrawing => k_is)
    (case n_NoDrawing_word => k_is)
    (case n_NoDrawing_at => k_is)
    (case xbr => k_is)
    (case xbg => k_is)
    (case xbf => k_is)
    (case k_NoDrawing_NoCut => kernel_rfl)
    (case k_NoDrawing_NoDeed => kernel_rfl)
    (case k_NoDrawing_NoName => kernel_rfl)
    (case k_NoDrawing_NoPaper => kernel_rfl)
    (case k_NoDrawing_NoRow => kernel_rfl)
    (case k_NoDrawing_NoText => kernel_rfl)
    (case k_NoDrawing_NoWord => kernel_rfl)
    (case k_NoDrawing_NoYard => kernel_rfl)
    (case k_NoDrawing_NotApart => kernel_rfl)
    (case k_NoDrawing_NotLone => kernel_rfl)
    (case k_NoDrawing_TooLong => kernel_rfl)
    (case k_NoDrawing_Twice => kernel_rfl)
    (case k_NoDrawing_NoDrawing => kernel_rfl)
    (case k_NoDrawing_ValueError => kernel_rfl)
    (case z_ValueError => k_is)
    (case z_enumerate => k_is)
    (case z_int => k_is)
    (case z_isinstance => k_is)
    (case z_len => k_is)
    (case z_list => k_is)
    (case z_max => k_is)
    (case z_min => k_is)
    (case z_range => k_is)
    (case z_repr => k_is)
    (case z_sorted => k_is)
    (case z_tuple => k_is)
