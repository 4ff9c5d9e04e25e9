import PyProof.Rows.All
import Wide.All
import OpenK.AllK
import Wide.FinOn
import Lean
import PyProof.EqAt
import PyProof.EqKinds
import PyProof.TupleCall
import PySem.Challenge.RW_mustmeet_k25_whole_roads_put_together
set_option Elab.async false
set_option linter.all false
set_option maxRecDepth 100000
namespace L2
open PySem PySem.Spec PyProof.Rows
noncomputable abbrev Key:=Sum Int Str
noncomputable def m_:Key->Value->Bool
 | .inl k,v=>Value.isInt k v
 | .inr x,v=>Value.isStrOf x v
noncomputable def KQ (w:World):Key->Int
 | .inl k=>hashInt k
 | .inr x=>hashStr w x
theorem bG: ∀{k:Key} {v:Value},m_ k v=true->(∃i t,k=Sum.inl i/\v=Value.int i t)\/(∃x t,k=Sum.inr x/\v=Value.str x t)
 | .inl i,v,h=>by
  obtain ⟨t,e⟩:=Value.isInt_shape (k:=i) (v:=v) h
  exact .inl ⟨i,t,rfl,e⟩
 | .inr x,v,h=>by
  obtain ⟨t,e⟩:=Value.isStrOf_shape (x:=x) (v:=v) h
  exact .inr ⟨x,t,rfl,e⟩
theorem vd (i:Int) (t:Tok):m_ (.inl i) (.int i t)=true:=by simp[m_,Value.isInt]
theorem ve (x:Str) (t:Tok):m_ (.inr x) (.str x t)=true:=by simp[m_,Value.isStrOf]
theorem CV (a b:Int):decide ((Sum.inl a:Key)=Sum.inl b)=(a==b):=by
 by_cases e:a=b
 ·subst e;simp
 ·have h: ¬(Sum.inl a:Key)=Sum.inl b:=fun q=>e (Sum.inl.inj q)
  rw[decide_eq_false h]
  exact (beq_eq_false_iff_ne.mpr e).symm
theorem CW (a b:Str):decide ((Sum.inr a:Key)=Sum.inr b)=decide (a=b):=by
 by_cases e:a=b
 ·subst e;simp
 ·have h: ¬(Sum.inr a:Key)=Sum.inr b:=fun q=>e (Sum.inr.inj q)
  rw[decide_eq_false h,decide_eq_false e]
theorem CY (a:Int) (b:Str):decide ((Sum.inl a:Key)=Sum.inr b)=false:=decide_eq_false (fun q=>nomatch q)
theorem CZ (a:Str) (b:Int):decide ((Sum.inr a:Key)=Sum.inl b)=false:=decide_eq_false (fun q=>nomatch q)
noncomputable def bN (prog:Program) (w:World):PySem.KeyKind prog w Key where
 is:=m_
 hash:=KQ w
 inj:=fun v a b ha hb=>by
  rcases bG ha with ⟨i,t,rfl,rfl⟩ | ⟨x,t,rfl,rfl⟩
  ·rcases bG hb with ⟨j,u,rfl,e⟩ | ⟨y,u,rfl,e⟩
   ·injection e with e1 _;rw[e1]
   ·exact nomatch e
  ·rcases bG hb with ⟨j,u,rfl,e⟩ | ⟨y,u,rfl,e⟩
   ·exact nomatch e
   ·injection e with e1 _;rw[e1]
 byValue:=fun k v h=>by
  rcases bG h with ⟨i,t,rfl,rfl⟩ | ⟨x,t,rfl,rfl⟩<;>rfl
 pyHash:=fun hv h=>by
  rcases bG hv with ⟨i,t,rfl,rfl⟩ | ⟨x,t,rfl,rfl⟩
  ·exact wpAny_pyHash_int h
  ·exact wpAny_pyHash_str h
 eqBool:=fun hu hv h=>by
  rcases bG hu with ⟨i,t,rfl,rfl⟩ | ⟨x,t,rfl,rfl⟩
  ·rcases bG hv with ⟨j,u,rfl,rfl⟩ | ⟨y,u,rfl,rfl⟩
   ·rw[CV]at h;exact wpAny_eqBool_int h
   ·rw[CY]at h;exact SeqAt.EqAt.int_str i t y u _ _ _ _ h
  ·rcases bG hv with ⟨j,u,rfl,rfl⟩ | ⟨y,u,rfl,rfl⟩
   ·rw[CZ]at h;exact SeqAt.EqAt.str_int x t j u _ _ _ _ h
   ·rw[CW]at h;exact wpAny_eqBool_str h
 «strs» :=fun k x t v h=>by
  rcases bG h with ⟨i,u,rfl,e⟩ | ⟨y,u,rfl,e⟩
  ·exact nomatch e
  ·injection e with e1 _
   subst e1
   cases v<;>rfl
theorem pV (prog:Program) (w:World) (i:Int) (t:Tok):(bN prog w).is (.inl i) (.int i t)=true:=vd i t
theorem pW (prog:Program) (w:World) (x:Str) (t:Tok):(bN prog w).is (.inr x) (.str x t)=true:=ve x t
end L2
namespace L2
open PySem PySem.Spec PyProof.Rows
inductive V where
 | bW | bl (b:Bool) | int (i:Int) | str (x:Str) | vf (b:Array UInt8) | FV (b:UInt64) | ref (a:Addr) | ty (n:String)
 deriving DecidableEq
noncomputable def RelV:V->Value->Prop
 | .bW,u=>u=Value.none
 | .bl b,u=>u=Value.bool b
 | .int i,u=> ∃t,u=Value.int i t
 | .str x,u=> ∃t,u=Value.str x t
 | .vf b,u=> ∃t,u=Value.bytes b t
 | .FV b,u=> ∃t,u=Value.float b t
 | .ref a,u=>u=Value.ref a
 | .ty n,u=>u=Value.type n
noncomputable abbrev Vals:List V->List Value->Prop:=Paired RelV
theorem Vals.length {xs:List V} {us:List Value} (r:Vals xs us):xs.length=us.length:=Paired.length r
theorem Vals.get: ∀{xs:List V} {us:List Value} {i:Nat} {x:V},Vals xs us->xs[i]? =some x-> ∃u,us[i]? =some u/\RelV x u
 | _,_,_,_, .nil,e=>by simp at e
 | _,_,0,_, .cons r _,e=>by simp at e;subst e;exact ⟨_,rfl,r⟩
 | _,_,i+1,x, .cons _ t,e=>by
  obtain ⟨u,h1,h2⟩:=Vals.get (i:=i) (x:=x) t (by simpa using e)
  exact ⟨u,by simpa using h1,h2⟩
theorem Vals.set {x:V} {u:Value} (r:RelV x u): ∀{xs:List V} {us:List Value} (i:Nat),Vals xs us->Vals (xs.set i x) (us.set i u)
 | _,_,_, .nil=> .nil
 | _,_,0, .cons _ t=> .cons r t
 | _,_,i+1, .cons q t=> .cons q (Vals.set r i t)
theorem Vals.append: ∀{xs ys:List V} {us ws:List Value},Vals xs us->Vals ys ws->Vals (xs++ys) (us++ws)
 | _,_,_,_, .nil,s=>s
 | _,_,_,_, .cons r t,s=> .cons r (Vals.append t s)
theorem Vals.take: ∀{xs:List V} {us:List Value} (n:Nat),Vals xs us->Vals (xs.take n) (us.take n)
 | _,_,0,_=> .nil
 | _,_,_+1, .nil=> .nil
 | _,_,n+1, .cons r t=> .cons r (Vals.take n t)
theorem Vals.drop: ∀{xs:List V} {us:List Value} (n:Nat),Vals xs us->Vals (xs.drop n) (us.drop n)
 | _,_,0,r=>r
 | _,_,_+1, .nil=> .nil
 | _,_,n+1, .cons _ t=>Vals.drop n t
noncomputable def mL:Option V->Option Value->Prop
 | some v,some u=>RelV v u
 | none,none=>True
 | _,_=>False
noncomputable def KV {κ:Type}:List (κ×V)->List (κ×Value)->Prop:=Paired fun (p:κ×V) (q:κ×Value)=>p.1=q.1/\RelV p.2 q.2
noncomputable def kV:Key->V
 | .inl i=> .int i
 | .inr x=> .str x
inductive HO where
  | lst (xs:List V)
  | tup (xs:List V)
  | dK (kvs:List (Key×V)) | dT (kvs:List (List Key×V))
  | set (S:Int->Bool) (n:Nat)
  | ins (C dx:Addr) (fs:List (Str×V))
  | own (x:Addr)
  | xd (fs:List (Str×V))
  | met (f x:Addr)
  | KR (lo hi:Int)
  | xm (o:Obj) (u:HO)
  | C0 (ps:Array Value)
  | ext (φ:Heap->Prop)
noncomputable abbrev Hp:=Addr->Option HO
noncomputable def upd (H:Hp) (a:Addr) (o:HO):Hp:=fun b=>if b=a then some o else H b
theorem ae {H:Hp} {a:Addr} {o:HO}:upd H a o a=some o:=by unfold upd;rw[if_pos rfl]
theorem aq {H:Hp} {a b:Addr} {o:HO} (h:b≠a):upd H a o b=H b:=by unfold upd;rw[if_neg h]
theorem tY {H:Hp} {a:Addr} {o u:HO}:upd (upd H a o) a u=upd H a u:=by
 funext b;unfold upd;split<;>rfl
theorem FW {H:Hp} {a b:Addr} {o u:HO} (h:H a=some o) (h':H b=some u) (d:o≠u):a≠b:=by
 intro e;subst e;rw[h]at h';exact d (Option.some.inj h')
theorem ak {H:Hp} {a b:Addr} {o:HO} (h:H a=some o) (h':H b=none):a≠b:=by
 intro e;subst e;rw[h]at h';cases h'
section
variable (P:Program) (w:World)
noncomputable def cI (H:Hp) (h:Heap) (a:Addr):HO->Prop
 | .lst xs=>xs.length<=sizeLine/\ ∃(ay:List Value) (n:Nat),Vals xs ay/\h.get? a=some { cls:= .type "list",data:= .seq ay.toArray n }
 | .tup xs=>xs.length<=sizeLine/\ ∃ay:List Value,Vals xs ay/\IsTup h a ay.toArray
 | .dK kvs=>kvs.length<=sizeLine/\(a==sysModules)=false/\ ∃vs,KV kvs vs/\h.DictOf (bN P w) a vs
 | .dT kvs=>kvs.length<=sizeLine/\(a==sysModules)=false/\ ∃xs:List (List Key×Addr×Value),
   Paired (fun (p:List Key×V) (q:List Key×Addr×Value)=>p.1=q.1/\H q.2.1=some (.tup (p.1.map kV))/\RelV p.2 q.2.2) kvs xs/\
   ∃o es ep,h.get? a=some o/\o.ExactDict/\o.data= .dict es ep/\es.toList=xs.map (entryOfKey (tupleKind (bN P w)))/\(xs.map (·.1)).Nodup
 | .set S n=>h.SetOf (intKind P w) a S n
 | .ins C dx fs=>H dx=some (.own a)/\fs.length<=1000/\dx≠a/\h.get? a=some (PySem.W.instObj C dx)/\
   ∃mA,h.Ns1 dx mA/\(∀f,mL (fs.lookup f) (mA f))/\PySem.Within mA (fs.map (·.1))
 | .own _=> ∃o,h.get? a=some o
 | .xd fs=> ∃mA,h.Ns1 a mA/\ ∀f,mL (fs.lookup f) (mA f)
 | .KR lo hi=> ∃t u v,h.get? a=some { cls:= .type "range",data:= .fields #[.int lo t, .int hi u, .int 1 v] }
 | .xm o u=>h.get? a=some o/\cI H h a u
 | .C0 ps=>h.get? a=some { cls:= .none,data:= .fields ps }
 | .met f x=>h.get? a=some (PySem.W.methodObj (.ref f) (.ref x))
 | .ext φ=>φ h/\(∃o,h.get? a=some o)/\ ∀h1 h2:Heap,φ h1->(∀o,h1.get? a=some o->h2.get? a=some o)->φ h2
noncomputable def iU (H:Hp) (h:Heap):Prop:= ∀a o,H a=some o->cI P w H h a o
end
section
variable {P:Program} {w:World} {H H':Hp} {h h':Heap} {a:Addr} {o:HO}
theorem cI.lt (x:cI P w H h a o):a<h.objs.size:=by
 cases o with
 | lst xs=>obtain ⟨_,_,_,_,e⟩:=x;exact Heap.lt_size e
 | tup xs=>obtain ⟨_,_,_,p⟩:=x;exact p.lt
 | dK kvs=>obtain ⟨_,_,_,_,o,_,_,e,_⟩:=x;exact Heap.lt_size e
 | dT kvs=>obtain ⟨_,_,_,_,o,_,_,e,_⟩:=x;exact Heap.lt_size e
 | set S n=>obtain ⟨o,_,_,_,e,_⟩:=x;exact Heap.lt_size e
 | ins C dx fs=>obtain ⟨_,_,_,e,_⟩:=x;exact Heap.lt_size e
 | own y=>obtain ⟨_,e⟩:=x;exact Heap.lt_size e
 | xd fs=>obtain ⟨_,⟨_,_,_,e,_⟩,_⟩:=x;exact Heap.lt_size e
 | KR lo hi=>obtain ⟨_,_,_,e⟩:=x;exact Heap.lt_size e
 | xm ob u=>obtain ⟨e,_⟩:=x;exact Heap.lt_size e
 | C0 ps=>exact Heap.lt_size (show h.get? a=some _ from x)
 | met f y=>exact Heap.lt_size (show h.get? a=some _ from x)
 | ext φ=>obtain ⟨_,⟨_,e⟩,_⟩:=x;exact Heap.lt_size e
theorem Paired.C1 {α β:Type} {F G:α->β->Prop}: ∀{l₁:List α} {l₂:List β},Paired F l₁ l₂->(∀a b,F a b->G a b)->Paired G l₁ l₂
 | _,_, .nil,_=> .nil
 | _,_, .cons r t,f=> .cons (f _ _ r) (Paired.C1 t f)
theorem cI.pX (x:cI P w H h a o) (k: ∀b u,(b=a\/H b=some (.own a))->h.get? b=some u->h'.get? b=some u)
  (ho: ∀b,H b=some (.own a)->H' b=some (.own a)) (ht: ∀b xs,H b=some (.tup xs)->H' b=some (.tup xs)):cI P w H' h' a o:=by
 induction o with
 | lst xs=>obtain ⟨z,ay,n,r,e⟩:=x;exact ⟨z,ay,n,r,k _ _ (.inl rfl) e⟩
 | tup xs=>obtain ⟨z,ay,r,ob,e,c⟩:=x;exact ⟨z,ay,r,ob,k _ _ (.inl rfl) e,c⟩
 | dK kvs=>obtain ⟨z,y,vs,r,ob,es,ep,e,c⟩:=x;exact ⟨z,y,vs,r,ob,es,ep,k _ _ (.inl rfl) e,c⟩
 | dT kvs=>
  obtain ⟨z,y,xs,r,ob,es,ep,e,c⟩:=x
  exact ⟨z,y,xs,Paired.C1 r fun p q z=>⟨z.1,ht _ _ z.2.1,z.2.2⟩,ob,es,ep,k _ _ (.inl rfl) e,c⟩
 | set S n=>obtain ⟨ob,es,ep,t,e,c⟩:=x;exact ⟨ob,es,ep,t,k _ _ (.inl rfl) e,c⟩
 | ins C dx fs=>
  obtain ⟨d,z,ne,e,mA,⟨od,es,ep,e2,c⟩,r⟩:=x
  exact ⟨ho _ d,z,ne,k _ _ (.inl rfl) e,mA,⟨od,es,ep,k _ _ (.inr d) e2,c⟩,r⟩
 | own y=>obtain ⟨ob,e⟩:=x;exact ⟨ob,k _ _ (.inl rfl) e⟩
 | xd fs=>obtain ⟨mA,⟨od,es,ep,e,c⟩,r⟩:=x;exact ⟨mA,⟨od,es,ep,k _ _ (.inl rfl) e,c⟩,r⟩
 | KR lo hi=>obtain ⟨t,u,v,e⟩:=x;exact ⟨t,u,v,k _ _ (.inl rfl) e⟩
 | xm ob u ih=>obtain ⟨e,q⟩:=x;exact ⟨k _ _ (.inl rfl) e,ih q⟩
 | C0 ps=>
  have e:h.get? a=some { cls:= .none,data:= .fields ps }:=x
  show h'.get? a=some { cls:= .none,data:= .fields ps }
  exact k a _ (.inl rfl) e
 | met f y=>
  have e:h.get? a=some (PySem.W.methodObj (.ref f) (.ref y)):=x
  show h'.get? a=some (PySem.W.methodObj (.ref f) (.ref y))
  exact k a _ (.inl rfl) e
 | ext φ=>obtain ⟨p,⟨o,e⟩,st⟩:=x;exact ⟨st _ _ p fun o q=>k _ _ (.inl rfl) q,⟨o,k _ _ (.inl rfl) e⟩,st⟩
theorem iU.lt (x:iU P w H h) (e:H a=some o):a<h.objs.size:=(x a o e).lt
theorem iU.fresh (x:iU P w H h) (e:h.objs.size<=a):H a=none:=by
 cases q:H a with
 | none=>rfl
 | some u=>exact absurd (Nat.lt_of_lt_of_le (x.lt q) e) (Nat.lt_irrefl _)
theorem iU.kept (x:iU P w H h) (k: ∀b u,h.get? b=some u->h'.get? b=some u):iU P w H h':=fun a o e=>
 (x a o e).pX (fun b u _ q=>k b u q) (fun _ q=>q) fun _ _ q=>q
theorem iU.laid (x:iU P w H h) (k: ∀b u,h.get? b=some u->h'.get? b=some u) (hp:h.objs.size<=a) (new:cI P w (upd H a o) h' a o):iU P w (upd H a o) h':=fun b u e=>by
 have hn:=x.fresh hp
 by_cases hb:b=a
 ·subst hb;rw[ae]at e;cases e;exact new
 ·rw[aq hb]at e
  exact (x b u e).pX (fun c v _ q=>k c v q) (fun c q=>by rw[aq (ak q hn)];exact q) fun c xs q=>by rw[aq (ak q hn)];exact q
end
noncomputable def Rd (H:Hp) (a:Addr) (u:HO):Prop:=H a=some u\/ ∃o,H a=some (.xm o u)
theorem Rd.ok {P:Program} {w:World} {H:Hp} {h:Heap} {a:Addr} {u:HO} (r:Rd H a u) (x:iU P w H h):cI P w H h a u:=by
 rcases r with r | ⟨o,r⟩
 ·exact x a u r
 ·obtain ⟨_,q⟩:=x a _ r
  exact q
noncomputable def FX:Option HO->Prop
 | some (.lst _)=>True
 | some (.dK _)=>True
 | some (.dT _)=>True
 | some (.set _ _)=>True
 | some (.ins _ _ _)=>True
 | some (.ext _)=>True
 | _=>False
section
variable {P:Program} {w:World} {H:Hp} {h h':Heap} {x e:Addr} {o':HO}
theorem iU.write (ok:iU P w H h) (mu:FX (H x)) (he:e=x\/H e=some (.own x)) (k: ∀b u,b≠e->h.get? b=some u->h'.get? b=some u) (Fp: ∃u,h'.get? e=some u)
  (new:cI P w (upd H x o') h' x o'):iU P w (upd H x o') h':=fun b u q=>by
 have FY: ∀c y,H c=some (.own y)->c≠x:=fun c y r z=>by subst z;rw[r]at mu;exact mu
 have KS: ∀c xs,H c=some (.tup xs)->c≠x:=fun c xs r z=>by subst z;rw[r]at mu;exact mu
 by_cases hb:b=x
 ·subst hb;rw[ae]at q;cases q;exact new
 ·rw[aq hb]at q
  by_cases xn:b=e
  ·have q':H b=some (.own x):=by
    rcases he with z | z
    ·exact absurd (xn.trans z) hb
    ·rw[xn];exact z
   rw[q]at q';cases q'
   obtain ⟨v,hv⟩:=Fp
   exact ⟨v,by rw[xn];exact hv⟩
  ·refine (ok b u q).pX (fun c v hc r=>k c v ?_ r) (fun c r=>by rw[aq (FY c b r)];exact r) fun c xs r=>by rw[aq (KS c xs r)];exact r
   rcases hc with rfl | hc
   ·exact xn
   ·rintro rfl
    rcases he with z | z
    ·exact FY c b hc z
    ·rw[hc]at z;cases z;exact hb rfl
end
structure Un (fs ex:List Addr) (H H':Hp) (h h':Heap):Prop where
 keep: ∀b o,h.get? b=some o->H b=none->b∉fs->b∉ex->h'.get? b=some o
 slot: ∀b o,h.get? b=some o->H b=none->b∈fs->b∉ex-> ∃sl,h'.get? b=some { o with slots:=sl }
 free: ∀b o,h.get? b=some o->H b=none->b∉ex->H' b=none
 there: ∀b o,h.get? b=some o->b∉ex-> ∃o',h'.get? b=some o'
 jH: ∀b xs,H b=some (.tup xs)->H' b=some (.tup xs)
 kJ: ∀b o u,H b=some (.xm o u)->H' b=some (.xm o u)
 oF: ∀b ps,H b=some (.C0 ps)-> ∃more,H' b=some (.C0 (ps++more))
section
variable {fs Uq ex YB:List Addr} {H H1 H2:Hp} {h h1 h2 h':Heap} {a x e:Addr} {o:HO}
theorem Un.any (u:Un fs ex H H1 h h1) {b:Addr} {ob:Obj} (q:h.get? b=some ob) (n:H b=none) (hx:b∉ex): ∃sl,h1.get? b=some { ob with slots:=sl }:=by
 by_cases hb:b∈fs
 ·exact u.slot b ob q n hb hx
 ·exact ⟨ob.slots,u.keep b ob q n hb hx⟩
theorem Un.kept (k: ∀b u,h.get? b=some u->h'.get? b=some u):Un fs ex H H h h':=
 ⟨fun b ob q _ _ _=>k b ob q,fun b ob q _ _ _=>⟨ob.slots,k b ob q⟩,fun _ _ _ n _=>n,fun b ob q _=>⟨ob,k b ob q⟩,fun _ _ q=>q,fun _ _ _ q=>q,fun _ ps q=>⟨#[],by rw[q];simp⟩⟩
theorem Un.refl:Un fs ex H H h h:=Un.kept fun _ _ q=>q
theorem Un.laid (k: ∀b u,h.get? b=some u->h'.get? b=some u) (hp:h.objs.size<=a) (hn:H a=none):Un fs ex H (upd H a o) h h' where
 keep:=fun b u q _ _ _=>k b u q
 slot:=fun b u q _ _ _=>⟨u.slots,k b u q⟩
 free:=fun b u q n _=>by rw[aq (Nat.ne_of_lt (Nat.lt_of_lt_of_le (Heap.lt_size q) hp))];exact n
 there:=fun b u q _=>⟨u,k b u q⟩
 jH:=fun b xs q=>by rw[aq (ak q hn)];exact q
 kJ:=fun b u xs q=>by rw[aq (ak q hn)];exact q
 oF:=fun b ps q=>⟨#[],by rw[aq (ak q hn),q];simp⟩
theorem Un.write (mu:FX (H x)) (he:e=x\/H e=some (.own x)) (k: ∀b u,b≠e->h.get? b=some u->h'.get? b=some u) (Fp: ∃u,h'.get? e=some u):Un fs ex H (upd H x o) h h':=by
 have hx: ∀b,H b=none->b≠x:=fun b n z=>by subst z;rw[n]at mu;exact mu
 have hb: ∀b,H b=none->b≠e:=fun b n z=>by
  subst z
  rcases he with r | r
  ·exact hx b n r
  ·rw[n]at r;cases r
 have hm: ∀b u,H b=some u-> ¬FX (some u)->b≠x:=fun b u q nm z=>by subst z;rw[q]at mu;exact nm mu
 refine ⟨fun b u q n _ _=>k b u (hb b n) q,fun b u q n _ _=>⟨u.slots,k b u (hb b n) q⟩,fun b u q n _=>by rw[aq (hx b n)];exact n,fun b u q _=>?_,
  fun b xs q=>by rw[aq (hm b _ q fun z=>z)];exact q,fun b u xs q=>by rw[aq (hm b _ q fun z=>z)];exact q,fun b ps q=>⟨#[],by rw[aq (hm b _ q fun z=>z),q];simp⟩⟩
 by_cases xn:b=e
 ·subst xn;exact Fp
 ·exact ⟨u,k b u xn q⟩
end
noncomputable def Jt (h:Heap) (H:Hp):List Addr:=(List.range h.objs.size).filter fun a=>(H a).isSome
noncomputable def oG (h:Heap) (H:Hp):Heap:=PySem.W.hideAll h (Jt h H)
theorem vg (h:Heap) (H:Hp):(oG h H).objs.size=h.objs.size:=PySem.W.hideAll_size _ _
theorem xE {h:Heap} {H:Hp} {b:Addr} {o:Obj} (e:h.get? b=some o) (n:H b=none):(oG h H).get? b=some o:=
 PySem.W.hideAll_get _ e fun hm=>by
  have q:(H b).isSome=true:=(List.mem_filter.mp hm).2
  rw[n]at q;simp at q
theorem Af {h:Heap} {H:Hp} {b:Addr} {o:Obj} (e:(oG h H).get? b=some o):h.get? b=some o/\H b=none:=by
 have e':h.get? b=some o:=PySem.W.of_hideAll (Jt h H) e
 refine ⟨e',?_⟩
 cases q:H b with
 | none=>rfl
 | some x=>
  have hm:b∈Jt h H:=List.mem_filter.mpr ⟨List.mem_range.mpr (Heap.lt_size e'),by simp[q]⟩
  have z:(oG h H).get? b=none:=PySem.W.hideAll_none (Jt h H) hm
  rw[z]at e;cases e
noncomputable def Ag (g h:Heap) (L:Addr):List (Addr×Obj):=(List.range h.objs.size).filterMap fun a=>if a=L\/(g.get? a).isSome=true then none else (h.get? a).map fun o=>(a,o)
noncomputable def rest (g h:Heap) (L d:Addr):List (Addr×Obj):=(Ag g h L).filter fun p=>decide (p.1≠d)
end L2
namespace L2
open PySem PySem.Spec PyProof.Rows
structure Mod (K:PySem.W.Frag) (mg:Str->Option Value) (base:Heap):Prop where
 KU:K.In base
 glob:base.Ns mainGlobals mg
 blt: ∃mb,base.Ns builtinsNs mb/\ ∀x:Str,x≠"__name__"->mb x=bootBuiltins x
 nolimit:base.NoLimit
structure Cx where
 prog:Program
 w:World
 K:PySem.W.Frag
 mg:Str->Option Value
 base:Heap
 A:Around
 N:List Str
 s₀:Shared
 H₀:Hp
 env:Env
 outer:List Env
 stack:List Env
 ex:List Addr
 fn:Str->Bool
 calm:Bool
 pn:List (Addr×Obj)
 xe:Value->Shared->Prop
noncomputable def tZ (l:List Env):List Addr:=l.filterMap (·.frame)
noncomputable abbrev Cx.fs (X:Cx):List Addr:=tZ X.outer
noncomputable def FZ (sc:Scope) (x:Str):Prop:=sc.names.lookup x=some .local\/sc.names.lookup x=some .cell\/sc.names.lookup x=some .free
noncomputable def Loc (sc:Scope) (x:Str):Prop:=sc.names.lookup x=some .local\/sc.names.lookup x=some .cell
noncomputable def Look (env:Env) (h:Heap) (m:Str->Option Value) (x:Str) (u:Value):Prop:=
 (env.kindOf x=some .local/\m x=some u)\/((env.kindOf x=some .cell\/env.kindOf x=some .free)/\ ∃c,env.cells.lookup x=some c/\h.IsCell c (some u))
structure Cx.Ok (X:Cx):Prop where
 mod:Mod X.K X.mg X.base
 kind:X.env.scope.kind= .function
 glob:X.env.globals=mainGlobals
 blt:X.env.builtins=builtinsNs
 above:X.s₀.heap.objs.size<=X.env.locals
 inj: ∀x y c,X.env.cells.lookup x=some c->X.env.cells.lookup y=some c->x=y
 has: ∀x,(X.env.kindOf x=some .cell\/X.env.kindOf x=some .free)-> ∃c,X.env.cells.lookup x=some c
 F_: ∀x c,X.fn x=true->X.env.cells.lookup x=some c->X.s₀.heap.objs.size<=c
 hd:X.calm=true->X.A.handled=none
 frames:X.A.frames=some X.stack
 Ju:X.stack=X.outer\/(X.stack=X.env::X.outer/\X.env.frame=some X.env.locals)
 RX: ∀b∈X.ex,b≠X.env.locals/\ ∀x c,X.env.cells.lookup x=some c->c≠b
 bs: ∀b o,X.base.get? b=some o->X.s₀.heap.get? b=some o/\X.H₀ b=none
 BJ:X.base.objs.size<=X.s₀.heap.objs.size
 xF: ∀b o,X.base.get? b=some o->b∉X.ex
 Ah: ∀b∈X.ex,b∉X.fs
 kK:X.s₀.heap.FunFrames X.base X.outer
 Fq: ∀b∈X.fs,X.H₀ b=none
structure Inv (X:Cx) (pins:List (Addr×Obj)) (σ:List (Option V)) (H:Hp) (s:Shared):Prop where
 ok:X.Ok
 os:s.os=X.s₀.os
 bare:AllBare s.gens
 base:Un X.fs X.ex X.H₀ H X.s₀.heap s.heap
 loc: ∃m,s.heap.Ns X.env.locals m/\ ∀(i:Nat) (x:Str) (v:V),X.N[i]? =some x->σ[i]? =some (some v)->FZ X.env.scope x-> ∃u,RelV v u/\Look X.env s.heap m x u
 cell: ∀x c,X.env.cells.lookup x=some c-> ∃v,s.heap.IsCell c v
 free:H X.env.locals=none
 gB: ∀x c,X.env.cells.lookup x=some c->H c=none
 pin: ∀p∈X.pn++pins,s.heap.get? p.1=some p.2/\H p.1=none/\p.1≠X.env.locals/\p.1∉X.fs/\ ∀v,p.2.data≠ .cell v
 bh:iU X.prog X.w H s.heap
 len:σ.length=X.N.length
section
variable {X:Cx} {pins:List (Addr×Obj)} {σ:List (Option V)} {H H':Hp} {s:Shared} {h':Heap}
theorem Cx.Ok.KW (ok:X.Ok) {b:Addr} {o:Obj} (e:X.base.get? b=some o):b∉X.fs:=fun hb=>by
 have:=(ok.kK.mem hb).1
 rw[e]at this;cases this
theorem Inv.bs (I:Inv X pins σ H s): ∀b o,X.base.get? b=some o->s.heap.get? b=some o/\H b=none:=fun b o e=>
 ⟨I.base.keep b o (I.ok.bs b o e).1 (I.ok.bs b o e).2 (I.ok.KW e) (I.ok.xF b o e),I.base.free b o (I.ok.bs b o e).1 (I.ok.bs b o e).2 (I.ok.xF b o e)⟩
theorem Inv.bk (I:Inv X pins σ H s): ∀b o,X.base.get? b=some o->s.heap.get? b=some o:=fun b o e=>(I.bs b o e).1
theorem Inv.mod (I:Inv X pins σ H s):Mod X.K X.mg X.base:=I.ok.mod
theorem Inv.Fs (I:Inv X pins σ H s):X.K.In s.heap:=I.ok.mod.KU.keeps I.bk
theorem Inv.lt (I:Inv X pins σ H s):X.env.locals<s.heap.objs.size:=let ⟨_,hn,_⟩:=I.loc;hn.lt
theorem Inv.sz (I:Inv X pins σ H s):X.s₀.heap.objs.size<=s.heap.objs.size:=Nat.le_trans I.ok.above (Nat.le_of_lt I.lt)
theorem Inv.C2 (I:Inv X pins σ H s) {a:Addr} (h:s.heap.objs.size<=a):a∉X.fs:=fun hb=>by
 obtain ⟨_,o,ho,_⟩:=I.ok.kK.mem hb
 exact absurd (Nat.lt_of_lt_of_le (Heap.lt_size ho) (Nat.le_trans I.sz h)) (Nat.lt_irrefl _)
theorem Inv.C3 (I:Inv X pins σ H s): ∀x c,X.env.cells.lookup x=some c->c≠X.env.locals:=fun x c e z=>by
 obtain ⟨v,o,ho,hd⟩:=I.cell x c e
 obtain ⟨m,⟨o',es,ep,iC,Ur,_⟩,_⟩:=I.loc
 rw[z,iC]at ho;cases ho;rw[Ur]at hd;cases hd
theorem Inv.kK (I:Inv X pins σ H s):s.heap.FunFrames X.base X.outer:=by
 have all: ∀(l:List Env),(∀b∈tZ l,b∈X.fs)->X.s₀.heap.FunFrames X.base l->s.heap.FunFrames X.base l:=by
  intro l
  induction l with
  | nil=>intro _ _;trivial
  | cons env r ih=>
   intro hs hl
   obtain ⟨hk,⟨L,o,hf,hn,ho,hd⟩,hr⟩:=hl
   have hL:L∈X.fs:=hs L (by unfold tZ;rw[List.filterMap_cons,hf];exact List.mem_cons_self)
   obtain ⟨sl,e⟩:=I.base.slot L o ho (I.ok.Fq L hL) hL fun z=>I.ok.Ah L z hL
   exact ⟨hk,⟨L,_,hf,hn,e,hd⟩,ih (fun b hb=>hs b (by unfold tZ;rw[List.filterMap_cons,hf];exact List.mem_cons_of_mem _ hb)) hr⟩
 exact all X.outer (fun _ hb=>hb) I.ok.kK
theorem Inv.stack (I:Inv X pins σ H s):s.heap.FunFrames X.base X.stack:=by
 rcases I.ok.Ju with e | ⟨e,hf⟩
 ·rw[e];exact I.kK
 ·rw[e]
  obtain ⟨m,hn,_⟩:=I.loc
  refine .cons (by rw[I.ok.kind];decide) hf hn ?_ I.kK
  exact Heap.get?_none_of_le (Nat.le_trans I.ok.BJ I.ok.above)
theorem Inv.kL (I:Inv X pins σ H s): ∀b∈tZ X.stack,b∈X.env.locals::X.fs:=fun b hb=>by
 rcases I.ok.Ju with e | ⟨e,hf⟩
 ·rw[e]at hb;exact List.mem_cons_of_mem _ hb
 ·rw[e]at hb
  unfold tZ at hb
  rw[List.filterMap_cons,hf]at hb
  exact hb
theorem Inv.t5 (I:Inv X pins σ H s): ∀b∈tZ X.stack,H b=none:=fun b hb=>by
 rcases List.mem_cons.mp (I.kL b hb) with e | hb
 ·rw[e];exact I.free
 ·obtain ⟨_,o,ho,_⟩:=I.ok.kK.mem hb
  exact I.base.free b o ho (I.ok.Fq b hb) fun z=>I.ok.Ah b z hb
theorem Inv.step {g':Array GenState} {t':Nat} {d':Drawn} {ch:List Addr} (I:Inv X pins σ H s)
  (zK: ∀b∈ch,(b∈X.ex\/X.s₀.heap.objs.size<=b)/\b≠X.env.locals/\(∀x c,X.env.cells.lookup x=some c->c≠b)/\ ∀p∈X.pn++pins,p.1≠b)
  (keep: ∀b o,b≠X.env.locals->b∉X.fs->b∉ch->s.heap.get? b=some o->H b=none->h'.get? b=some o)
  (slot: ∀b o,b≠X.env.locals->b∈X.fs->b∉ch->s.heap.get? b=some o->H b=none-> ∃sl,h'.get? b=some { o with slots:=sl }) (free: ∀b o,b∉ch->s.heap.get? b=some o->H b=none->H' b=none)
  (there: ∀b o,b∉ch->s.heap.get? b=some o-> ∃o',h'.get? b=some o')
  (jH: ∀b xs,H b=some (.tup xs)->H' b=some (.tup xs)) (kJ: ∀b o u,H b=some (.xm o u)->H' b=some (.xm o u)) (oF: ∀b ps,H b=some (.C0 ps)-> ∃more,H' b=some (.C0 (ps++more)))
  (ns: ∀m,s.heap.Ns X.env.locals m->h'.Ns X.env.locals m) (bh:iU X.prog X.w H' h') (hg:AllBare g'):
  Inv X pins σ H' { s with heap:=h',gens:=g',drawn:=d',toks:=t' }:=by
 have RY: ∀b o,X.s₀.heap.get? b=some o->b≠X.env.locals:=fun b o e=>Nat.ne_of_lt (Nat.lt_of_lt_of_le (Heap.lt_size e) I.ok.above)
 have C4: ∀b o,X.s₀.heap.get? b=some o->b∉X.ex->b∉ch:=fun b o e hx hb=>by
  rcases (zK b hb).1 with z | z
  ·exact hx z
  ·exact absurd (Nat.lt_of_lt_of_le (Heap.lt_size e) z) (Nat.lt_irrefl _)
 have cellK: ∀x c,X.env.cells.lookup x=some c-> ∀v,s.heap.IsCell c v->h'.IsCell c v:=fun x c e v ⟨o,ho,hd⟩=>by
  have Ga:c∉ch:=fun z=>(zK c z).2.2.1 x c e rfl
  by_cases hc:c∈X.fs
  ·obtain ⟨sl,q⟩:=slot c o (I.C3 x c e) hc Ga ho (I.gB x c e)
   exact ⟨_,q,hd⟩
  ·exact ⟨o,keep c o (I.C3 x c e) hc Ga ho (I.gB x c e),hd⟩
 refine ⟨I.ok,I.os,hg,⟨fun b o e n hb hx=>?_,fun b o e n hb hx=>?_,fun b o e n hx=>?_,fun b o e hx=>?_,fun b xs e=>jH b xs (I.base.jH b xs e),fun b o xs e=>kJ b o xs (I.base.kJ b o xs e),fun b ps e=>?_⟩,?_,fun x c e=>?_,?_,fun x c e=>?_,fun p hp=>?_,bh,I.len⟩
 ·exact keep b o (RY b o e) hb (C4 b o e hx) (I.base.keep b o e n hb hx) (I.base.free b o e n hx)
 ·obtain ⟨sl,e1⟩:=I.base.slot b o e n hb hx
  obtain ⟨Us,e2⟩:=slot b _ (RY b o e) hb (C4 b o e hx) e1 (I.base.free b o e n hx)
  exact ⟨Us,e2⟩
 ·obtain ⟨o',e1⟩:=I.base.there b o e hx
  exact free b o' (C4 b o e hx) e1 (I.base.free b o e n hx)
 ·obtain ⟨o',e1⟩:=I.base.there b o e hx
  exact there b o' (C4 b o e hx) e1
 ·obtain ⟨m1,e1⟩:=I.base.oF b ps e
  obtain ⟨m2,e2⟩:=oF b _ e1
  exact ⟨m1++m2,by rw[e2,Array.append_assoc]⟩
 ·obtain ⟨m,hn,hl⟩:=I.loc
  refine ⟨m,ns m hn,fun i x v e1 e2 e3=>?_⟩
  obtain ⟨u,r,l⟩:=hl i x v e1 e2 e3
  refine ⟨u,r,?_⟩
  rcases l with l | ⟨k,c,e,z⟩
  ·exact .inl l
  ·exact .inr ⟨k,c,e,cellK x c e _ z⟩
 ·obtain ⟨v,z⟩:=I.cell x c e
  exact ⟨v,cellK x c e v z⟩
 ·obtain ⟨m,⟨o,_,_,ho,_⟩,_⟩:=I.loc
  exact free _ o (fun z=>(zK _ z).2.1 rfl) ho I.free
 ·obtain ⟨v,o,ho,hd⟩:=I.cell x c e
  exact free c o (fun z=>(zK c z).2.2.1 x c e rfl) ho (I.gB x c e)
 ·obtain ⟨e,n,ne,nf,d⟩:=I.pin p hp
  have Ga:p.1∉ch:=fun z=>(zK p.1 z).2.2.2 p hp rfl
  exact ⟨keep p.1 p.2 ne nf Ga e n,free p.1 p.2 Ga e n,ne,nf,d⟩
theorem Inv.un {t':Nat} (I:Inv X pins σ H s) (u:Un X.fs [] H H' s.heap h') (bh:iU X.prog X.w H' h'):Inv X pins σ H' { s with heap:=h',toks:=t' }:=by
 obtain ⟨m,⟨o,es,ep,ho,r⟩,_⟩:=id I.loc
 obtain ⟨sl,hL⟩:=u.any ho I.free (by simp)
 exact I.step (g':=s.gens) (d':=s.drawn) (ch:=[]) (fun _ z=>nomatch z) (fun b o _ hb _ e n=>u.keep b o e n hb (by simp)) (fun b o _ hb _ e n=>u.slot b o e n hb (by simp)) (fun b o _ e n=>u.free b o e n (by simp)) (fun b o _ e=>u.there b o e (by simp)) u.jH u.kJ u.oF (fun m' hm=>by
  obtain ⟨o',KY,KZ,iC,r'⟩:=hm
  rw[ho]at iC;cases iC
  exact ⟨_,KY,KZ,hL,r'⟩) bh I.bare
theorem Inv.call {g':Array GenState} {t':Nat} {d':Drawn} {ch:List Addr} (I:Inv X pins σ H s) (u:Un (tZ X.stack) ch H H' s.heap h') (bh:iU X.prog X.w H' h') (hg:AllBare g')
  (zK: ∀b∈ch,(b∈X.ex\/X.s₀.heap.objs.size<=b)/\b≠X.env.locals/\(∀x c,X.env.cells.lookup x=some c->c≠b)/\ ∀p∈X.pn++pins,p.1≠b):
  Inv X pins σ H' { s with heap:=h',gens:=g',drawn:=d',toks:=t' }:=by
 obtain ⟨m,⟨o,es,ep,ho,r⟩,_⟩:=id I.loc
 obtain ⟨sl,hL⟩:=u.any ho I.free fun z=>(zK _ z).2.1 rfl
 exact I.step (ch:=ch) zK (fun b o hL hb hc e n=>u.keep b o e n (fun z=>(List.mem_cons.mp (I.kL b z)).elim hL hb) hc) (fun b o _ _ hc e n=>u.any e n hc) (fun b o hc e n=>u.free b o e n hc) (fun b o hc e=>u.there b o e hc) u.jH u.kJ u.oF (fun m' hm=>by
  obtain ⟨o',KY,KZ,iC,r'⟩:=hm
  rw[ho]at iC;cases iC
  exact ⟨_,KY,KZ,hL,r'⟩) bh hg
theorem Inv.turned {t':Nat} {it:Addr} (I:Inv X pins σ H s) (k: ∀b o,b≠it->s.heap.get? b=some o->h'.get? b=some o) (hn:H it=none) (hL:it≠X.env.locals)
  (h1:it∈X.ex\/X.s₀.heap.objs.size<=it) (h2: ∀x c,X.env.cells.lookup x=some c->c≠it) (h3: ∀p∈X.pn++pins,p.1≠it):Inv X pins σ H { s with heap:=h',toks:=t' }:=by
 have BK: ∀b u,H b=some u->b≠it:=fun b u e z=>by rw[z,hn]at e;cases e
 refine I.step (g':=s.gens) (d':=s.drawn) (ch:=[it]) (fun b hb=>?_) (fun b o _ _ hc e _=>k b o (fun z=>hc (by simp[z])) e) (fun b o _ _ hc e _=>⟨o.slots,k b o (fun z=>hc (by simp[z])) e⟩) (fun _ _ _ _ n=>n)
  (fun b o hc e=>⟨o,k b o (fun z=>hc (by simp[z])) e⟩) (fun _ _ e=>e) (fun _ _ _ e=>e) (fun b ps e=>⟨#[],by rw[e];simp⟩) (fun m hm=>?_) (fun b u e=>?_) I.bare
 ·have e:b=it:=by simpa using hb
  subst e
  exact ⟨h1,hL,h2,h3⟩
 ·obtain ⟨o,es,ep,ho,r⟩:=hm
  exact ⟨o,es,ep,k _ o (Ne.symm hL) ho,r⟩
 ·refine (I.bh b u e).pX (fun c v hc q=>k c v ?_ q) (fun _ q=>q) fun _ _ q=>q
  rcases hc with z | z
  ·rw[z];exact BK b u e
  ·exact BK c _ z
theorem Inv.tok (I:Inv X pins σ H s) (t:Nat):Inv X pins σ H { s with toks:=t }:=I.un (h':=s.heap) (t':=t) Un.refl I.bh
theorem Inv.kept {t':Nat} (I:Inv X pins σ H s) (k: ∀b u,s.heap.get? b=some u->h'.get? b=some u):Inv X pins σ H { s with heap:=h',toks:=t' }:=I.un (Un.kept k) (I.bh.kept k)
theorem Inv.laid {a:Addr} {o:HO} {t':Nat} (I:Inv X pins σ H s) (k: ∀b u,s.heap.get? b=some u->h'.get? b=some u) (hp:s.heap.objs.size<=a) (new:cI X.prog X.w (upd H a o) h' a o):
  Inv X pins σ (upd H a o) { s with heap:=h',toks:=t' }:=I.un (Un.laid k hp (I.bh.fresh hp)) (I.bh.laid k hp new)
theorem Inv.write {x e:Addr} {o:HO} {t':Nat} (I:Inv X pins σ H s) (mu:FX (H x)) (he:e=x\/H e=some (.own x)) (k: ∀b u,b≠e->s.heap.get? b=some u->h'.get? b=some u) (Fp: ∃u,h'.get? e=some u)
  (new:cI X.prog X.w (upd H x o) h' x o):Inv X pins σ (upd H x o) { s with heap:=h',toks:=t' }:=I.un (Un.write mu he k Fp) (I.bh.write mu he k Fp new)
theorem Inv.weak {σ':List (Option V)} (I:Inv X pins σ H s) (hl:σ'.length=σ.length) (w: ∀(i:Nat) v,σ'[i]? =some (some v)->σ[i]? =some (some v)):Inv X pins σ' H s:=
 ⟨I.ok,I.os,I.bare,I.base,let ⟨m,hn,vh⟩:=I.loc;⟨m,hn,fun i x v e1 e2 e3=>vh i x v e1 (w i v e2) e3⟩,I.cell,I.free,I.gB,I.pin,I.bh,hl.trans I.len⟩
theorem Inv.iW {t6:List (Addr×Obj)} (I:Inv X pins σ H s) (h: ∀p∈t6,s.heap.get? p.1=some p.2/\H p.1=none/\p.1≠X.env.locals/\p.1∉X.fs/\ ∀v,p.2.data≠ .cell v):Inv X t6 σ H s:=
 ⟨I.ok,I.os,I.bare,I.base,I.loc,I.cell,I.free,I.gB,fun p hp=>(List.mem_append.mp hp).elim (fun z=>I.pin p (List.mem_append_left _ z)) (h p),I.bh,I.len⟩
theorem pY {N:List Str} (hN:N.Nodup) {i j:Nat} {x:Str} (a:N[i]? =some x) (b:N[j]? =some x):i=j:=by
 obtain ⟨h1,e1⟩:=List.getElem?_eq_some_iff.mp a
 obtain ⟨h2,e2⟩:=List.getElem?_eq_some_iff.mp b
 exact (List.getElem_inj hN).mp (e1.trans e2.symm)
theorem vi {M:Model} {A:Around} {E:Value->Shared->Prop} {i:Nat} {x:Str} {v:V} {u:Value} {Q:Unit->Shared->Prop} (I:Inv X pins σ H s) (hN:X.N.Nodup) (hi:X.N[i]? =some x) (hx:Loc X.env.scope x) (r:RelV v u)
  (h: ∀s',Inv X pins (σ.set i (some v)) H s'->(∃a,Heap.SameBut a s.heap s'.heap/\(a=X.env.locals\/X.env.cells.lookup x=some a))->Q () s') (hf:X.fn x=true\/X.env.scope.names.lookup x=some .local:=by first | exact .inl rfl | exact .inr rfl | assumption):wpAny M A (storeName X.env x u) Q E s:=by
 obtain ⟨m,hn,hl⟩:=id I.loc
 have K0:(X.env.scope.kind== .class||(X.env.scope.kind== .module&&X.env.locals != X.env.globals))=false:=by rw[I.ok.kind];rfl
 have RZ:i<σ.length:=by rw[I.len];exact (List.getElem?_eq_some_iff.mp hi).1
 have C3:=I.C3
 have tracked: ∀{a:Addr} {h':Heap},(∃o,s.heap.get? a=some o/\H a=none)->Heap.SameBut a s.heap h'->iU X.prog X.w H h':=fun {a h'} ha hs b ob e=>by
  obtain ⟨_,_,BL⟩:=ha
  refine (I.bh b ob e).pX (fun c w' hc q=>(hs.2 c ?_).trans q) (fun _ q=>q) fun _ _ q=>q
  rintro rfl
  rcases hc with rfl | hc
  ·rw[BL]at e;cases e
  ·rw[BL]at hc;cases hc
 rcases hx with hk | hk
 ·refine wpAny_storeName_local hk hn (fun h' Ut hs=>?_) K0
  obtain ⟨oL,_,_,BM,_⟩:=id hn
  refine h _ ⟨I.ok,I.os,I.bare,⟨fun b o e n hb hx=>?_,fun b o e n hb hx=>?_,I.base.free,fun b o e hx=>?_,I.base.jH,I.base.kJ,I.base.oF⟩,⟨_,Ut,fun j y v' e1 e2 e3=>?_⟩,fun y c e=>?_,I.free,I.gB,fun p hp=>?_,tracked ⟨oL,BM,I.free⟩ hs,by simpa using I.len⟩ ⟨_,hs, .inl rfl⟩
  ·exact (hs.2 b (Nat.ne_of_lt (Nat.lt_of_lt_of_le (Heap.lt_size e) I.ok.above))).trans (I.base.keep b o e n hb hx)
  ·obtain ⟨sl,e1⟩:=I.base.slot b o e n hb hx
   exact ⟨sl,(hs.2 b (Nat.ne_of_lt (Nat.lt_of_lt_of_le (Heap.lt_size e) I.ok.above))).trans e1⟩
  ·obtain ⟨o',e1⟩:=I.base.there b o e hx
   exact ⟨o',(hs.2 b (Nat.ne_of_lt (Nat.lt_of_lt_of_le (Heap.lt_size e) I.ok.above))).trans e1⟩
  ·by_cases hj:j=i
   ·subst hj
    rw[hi]at e1;cases e1
    rw[List.getElem?_set_self RZ]at e2
    cases e2
    exact ⟨u,r, .inl ⟨hk,by simp⟩⟩
   ·rw[List.getElem?_set_ne (Ne.symm hj)]at e2
    obtain ⟨u',r',q⟩:=hl j y v' e1 e2 e3
    refine ⟨u',r',?_⟩
    rcases q with ⟨k,e⟩ | ⟨k,c,e,z⟩
    ·refine .inl ⟨k,?_⟩
     have:y≠x:=fun e=>hj (pY hN e1 (e▸hi))
     simp[this,e]
    ·exact .inr ⟨k,c,e,z.sameBut hs (C3 y c e)⟩
  ·obtain ⟨w',z⟩:=I.cell y c e
   exact ⟨w',z.sameBut hs (C3 y c e)⟩
  ·obtain ⟨e,n,ne,nf,d⟩:=I.pin p hp
   exact ⟨(hs.2 p.1 ne).trans e,n,ne,nf,d⟩
 ·have K1:X.fn x=true:=by
   rcases hf with z | z
   ·exact z
   ·rw[z]at hk;cases hk
  obtain ⟨c,hc⟩:=I.ok.has x (.inl hk)
  obtain ⟨w',z⟩:=I.cell x c hc
  refine wpAny_storeName_cell I.ok.kind hk hc z (fun h' vj hs=>?_)
  obtain ⟨oc,R0,K2⟩:=id z
  refine h { s with heap:=h' } ⟨I.ok,I.os,I.bare,⟨fun b o e n hb hx=>?_,fun b o e n hb hx=>?_,I.base.free,fun b o e hx=>?_,I.base.jH,I.base.kJ,I.base.oF⟩,⟨m,hn.sameBut hs (Ne.symm (C3 x c hc)),fun j y v' e1 e2 e3=>?_⟩,fun y c' e=>?_,I.free,I.gB,fun p hp=>?_,tracked ⟨oc,R0,I.gB x c hc⟩ hs,by simpa using I.len⟩ ⟨c,hs, .inr hc⟩
  ·exact (hs.2 b (Nat.ne_of_lt (Nat.lt_of_lt_of_le (Heap.lt_size e) (I.ok.F_ x c K1 hc)))).trans (I.base.keep b o e n hb hx)
  ·obtain ⟨sl,e1⟩:=I.base.slot b o e n hb hx
   exact ⟨sl,(hs.2 b (Nat.ne_of_lt (Nat.lt_of_lt_of_le (Heap.lt_size e) (I.ok.F_ x c K1 hc)))).trans e1⟩
  ·obtain ⟨o',e1⟩:=I.base.there b o e hx
   exact ⟨o',(hs.2 b (Nat.ne_of_lt (Nat.lt_of_lt_of_le (Heap.lt_size e) (I.ok.F_ x c K1 hc)))).trans e1⟩
  ·by_cases hj:j=i
   ·subst hj
    rw[hi]at e1;cases e1
    rw[List.getElem?_set_self RZ]at e2
    cases e2
    exact ⟨u,r, .inr ⟨.inl hk,c,hc,vj⟩⟩
   ·rw[List.getElem?_set_ne (Ne.symm hj)]at e2
    obtain ⟨u',r',q⟩:=hl j y v' e1 e2 e3
    refine ⟨u',r',?_⟩
    rcases q with q | ⟨k,c',e,z'⟩
    ·exact .inl q
    ·refine .inr ⟨k,c',e,z'.sameBut hs ?_⟩
     rintro rfl
     exact hj (pY hN e1 (I.ok.inj _ _ _ e hc▸hi))
  ·by_cases R1:c'=c
   ·subst R1;exact ⟨_,vj⟩
   ·obtain ⟨w2,z2⟩:=I.cell y c' e
    exact ⟨w2,z2.sameBut hs R1⟩
  ·obtain ⟨e,n,ne,nf,d⟩:=I.pin p hp
   refine ⟨(hs.2 p.1 ?_).trans e,n,ne,nf,d⟩
   intro q
   rw[q,R0]at e
   have q':oc=p.2:=Option.some.inj e
   exact d w' (by rw[<-q'];exact K2)
theorem iX {M:Model} {A:Around} {E:Value->Shared->Prop} {i:Nat} {x:Str} {v:V} {u:Value} {Q:Unit->Shared->Prop} (I:Inv X pins σ H s) (hN:X.N.Nodup) (hi:X.N[i]? =some x) (hx:Loc X.env.scope x) (r:RelV v u)
  (h: ∀s',Inv X pins (σ.set i (some v)) H s'->Q () s') (hf:X.fn x=true\/X.env.scope.names.lookup x=some .local:=by first | exact .inl rfl | exact .inr rfl | assumption):wpAny M A (storeName X.env x u) Q E s:=
 vi I hN hi hx r (fun s' I' _=>h s' I') hf
theorem Inv.Gb {s':Shared} {ch:List Addr} (I:Inv X pins σ H s) (ho:s'.os=s.os) (u:Un (tZ X.stack) ch H H' s.heap s'.heap) (bh:iU X.prog X.w H' s'.heap) (hg:AllBare s'.gens)
  (zK: ∀b∈ch,(b∈X.ex\/X.s₀.heap.objs.size<=b)/\b≠X.env.locals/\(∀x c,X.env.cells.lookup x=some c->c≠b)/\ ∀p∈X.pn++pins,p.1≠b):Inv X pins σ H' s':=by
 obtain ⟨h',g',d',t',o'⟩:=s'
 have e:o'=s.os:=ho
 subst e
 exact I.call (g':=g') (t':=t') (d':=d') u bh hg zK
end
noncomputable abbrev XK:=Value->Option Addr->Hp->Prop
noncomputable abbrev St:=List (Option V)
noncomputable abbrev VK:=V->Hp->Prop
noncomputable abbrev TE:=St->Hp->VK->Prop
noncomputable abbrev TT:=St->Hp->(Bool->Hp->Prop)->Prop
noncomputable abbrev TA:=St->Hp->(List V->Hp->Prop)->Prop
structure Ends where
 nx:St->Hp->Prop
 rt:VK
 bk:St->Hp->Prop:=fun _ _=>False
 ct:St->Hp->Prop:=fun _ _=>False
noncomputable abbrev TS:=Ends->St->Hp->Prop
noncomputable def EP (X:Cx) (pins:List (Addr×Obj)) (σ:St) (Q:VK) (u:Value) (s':Shared):Prop:= ∃v H',Inv X pins σ H' s'/\RelV v u/\Q v H'
noncomputable def TP (X:Cx) (pins:List (Addr×Obj)) (σ:St) (Q:Bool->Hp->Prop) (b:Bool) (s':Shared):Prop:= ∃H',Inv X pins σ H' s'/\Q b H'
noncomputable def AP (X:Cx) (pins:List (Addr×Obj)) (σ:St) (Q:List V->Hp->Prop) (us:List Value) (s':Shared):Prop:= ∃vs H',Inv X pins σ H' s'/\Vals vs us/\Q vs H'
noncomputable def SP (X:Cx) (pins:List (Addr×Obj)) (D:Ends) (f:Flow) (s':Shared):Prop:=
 match f with
 | .next=> ∃σ' H',Inv X pins σ' H' s'/\D.nx σ' H'
 | .brk=> ∃σ' H',Inv X pins σ' H' s'/\D.bk σ' H'
 | .cont=> ∃σ' H',Inv X pins σ' H' s'/\D.ct σ' H'
 | .ret u=> ∃v σ' H',Inv X pins σ' H' s'/\RelV v u/\D.rt v H'
noncomputable def PE (X:Cx) (e:Expr) (t:TE):Prop:=
 ∀(pins:List (Addr×Obj)) (s:Shared) (σ:St) (H:Hp) (Q:VK),Inv X pins σ H s->t σ H Q->wpAny (model X.prog X.w) X.A (eval e X.env) (EP X pins σ Q) X.xe s
noncomputable def PT (X:Cx) (e:Expr) (t:TT):Prop:=
 ∀(pins:List (Addr×Obj)) (s:Shared) (σ:St) (H:Hp) (Q:Bool->Hp->Prop),Inv X pins σ H s->t σ H Q->wpAny (model X.prog X.w) X.A (isTrue e X.env (eval e X.env)) (TP X pins σ Q) X.xe s
noncomputable def PW (X:Cx) (e:Expr) (t:TT):Prop:=
 ∀(whole:Sem Value) (pins:List (Addr×Obj)) (s:Shared) (σ:St) (H:Hp) (Q:Bool->Hp->Prop),Inv X pins σ H s->t σ H Q->wpAny (model X.prog X.w) X.A (isTrue e X.env whole) (TP X pins σ Q) X.xe s
theorem PW.pt {X:Cx} {e:Expr} {t:TT} (h:PW X e t):PT X e t:=h _
noncomputable def PA (X:Cx) (es:List Expr) (t:TA):Prop:=
 ∀(pos:Pos) (pins:List (Addr×Obj)) (s:Shared) (σ:St) (H:Hp) (Q:List V->Hp->Prop),Inv X pins σ H s->t σ H Q->wpAny (model X.prog X.w) X.A (spliced (backTo pos (starEach es X.env))) (AP X pins σ Q) X.xe s
noncomputable def PS (X:Cx) (st:Stmt) (t:TS):Prop:=
 ∀(pins:List (Addr×Obj)) (s:Shared) (σ:St) (H:Hp) (D:Ends),Inv X pins σ H s->t D σ H->wpAny (model X.prog X.w) X.A (exec st X.env) (SP X pins D) X.xe s
noncomputable def vk (X:Cx) (st:List Stmt) (t:TS):Prop:=
 ∀(pins:List (Addr×Obj)) (s:Shared) (σ:St) (H:Hp) (D:Ends),Inv X pins σ H s->t D σ H->wpAny (model X.prog X.w) X.A (execs st X.env) (SP X pins D) X.xe s
theorem bU {α:Type} {t:Sem α} {Q Q':α->Shared->Prop} {M:Model} {A:Around} {E:Value->Shared->Prop} {s:Shared} (h:wpAny M A t Q E s) (hQ: ∀a s,Q a s->Q' a s):wpAny M A t Q' E s:=wpAny_mono h hQ fun _ _ x=>x
end L2
namespace L2
open PySem PySem.Spec PyProof.Rows
section
variable {X:Cx}
noncomputable def Gd (i:Nat):TE:=fun σ H Q=> ∃v,σ[i]? =some (some v)/\Q v H
noncomputable def tC (v:V):TE:=fun _ H Q=>Q v H
theorem C5 {i:Nat} {x:Str} {pos:Pos} (hN:X.N[i]? =some x) (hv:FZ X.env.scope x) (hd:(x==("__debug__":Str))=false:=by decide) (pZ:(x==("__classdict__":Str))=false:=by decide):PE X (.Name x pos) (Gd i):=by
 intro pins s σ H Q I h
 obtain ⟨v,e,h⟩:=h
 obtain ⟨m,hn,hl⟩:=I.loc
 obtain ⟨u,r,l⟩:=hl i x v hN e hv
 have fin:EP X pins σ Q u s:=⟨v,H,I,r,h⟩
 rcases l with ⟨hk,hm⟩ | ⟨hk,c,hc,ft⟩
 ·exact wpAny_Name (wpAny_loadName_local I.ok.kind hk hn hm fin) hd
 ·rcases hk with hk | hk
  ·exact wpAny_Name (wpAny_loadName_cell I.ok.kind hk hc ft fin) hd
  ·exact wpAny_Name (wpAny_loadName_free I.ok.kind hk hc ft fin pZ) hd
theorem ag {i j pos}:PE X (.Constant (.int i) j pos) (tC (.int i)):=fun _ _ _ H _ I h=>wpAny_Constant_int ⟨.int i,H,I.tok _,⟨_,rfl⟩,h⟩
theorem fc {b j pos}:PE X (.Constant (.bool b) j pos) (tC (.bl b)):=fun _ _ _ H _ I h=>Constant_bool ⟨.bl b,H,I,rfl,h⟩
theorem jI {j pos}:PE X (.Constant .none j pos) (tC .bW):=fun _ _ _ H _ I h=>Constant_none ⟨.bW,H,I,rfl,h⟩
theorem C6 {x j pos}:PE X (.Constant (.str x) j pos) (tC (.str x)):=fun _ _ _ H _ I h=>Calls.Constant_str ⟨.str x,H,I.tok _,⟨_,rfl⟩,h⟩
noncomputable def Gl (X:Cx) (x:Str):Prop:=X.env.kindOf x=some .globalImplicit
theorem Ai {E:Value->Shared->Prop} {pins:List (Addr×Obj)} {s:Shared} {σ:St} {H:Hp} {x:Str} {u:Value} {pos:Pos} {Q:Value->Shared->Prop} (I:Inv X pins σ H s) (hg:Gl X x) (hm:X.mg x=some u) (h:Q u s)
  (hd:(x==("__debug__":Str))=false:=by decide):wpAny (model X.prog X.w) X.A (eval (.Name x pos) X.env) Q E s:=
 Calls.Name_function_global I.ok.kind hg (Calls.loadGlobal_global (by rw[I.ok.glob];exact I.mod.glob.keeps I.bk) hm h) hd
theorem cJ {E:Value->Shared->Prop} {pins:List (Addr×Obj)} {s:Shared} {σ:St} {H:Hp} {x:Str} {u:Value} {pos:Pos} {Q:Value->Shared->Prop} (I:Inv X pins σ H s) (hg:Gl X x) (hm:X.mg x=none) (hv:bootBuiltins x=some u) (h:Q u s)
  (hn:x≠"__name__":=by decide) (hd:(x==("__debug__":Str))=false:=by decide):wpAny (model X.prog X.w) X.A (eval (.Name x pos) X.env) Q E s:=by
 obtain ⟨mb,h1,h2⟩:=I.mod.blt
 exact Calls.Name_function_global I.ok.kind hg (Calls.loadGlobal_builtin (by rw[I.ok.glob];exact I.mod.glob.keeps I.bk) hm (by rw[I.ok.blt];exact h1.keeps I.bk) ((h2 x hn).trans hv) h) hd
variable {a b:Expr} {ta tb:TE} {pos:Pos}
noncomputable def PC (X:Cx) (op:CmpOp) (a b:Expr) (t:TE):Prop:=
 ∀(pins:List (Addr×Obj)) (s:Shared) (σ:St) (H:Hp) (Q:VK),Inv X pins σ H s->t σ H Q->
  wpAny (model X.prog X.w) X.A (eval a X.env) (fun v s₁=>wpAny (model X.prog X.w) X.A (eval b X.env) (fun u s₂=>wpAny (model X.prog X.w) X.A (compareOp op v u) (EP X pins σ Q) X.xe s₂) X.xe s₁) X.xe s
noncomputable def tB (t:TE):TT:=fun σ H Q=>t σ H fun x H1=> ∃c,x= .bl c/\Q c H1
theorem C7 {op:CmpOp} {t:TE} (h:PC X op a b t) (h1:behindInMarks op b=false:=by first | exact Ge _ (by decide) (by decide) | rfl):PT X (.Compare a [op] [b] pos) (tB t):=by
 intro pins s σ H Q I hw
 refine wpAny_isTrue_Compare1 (bU (h pins s σ H _ I hw) fun v s1 h1=>bU h1 fun u s2 h2=>bU h2 fun c s3 ⟨x,H1,I1,r1,q1⟩=>?_) h1
 obtain ⟨d,rfl,q⟩:=q1
 cases r1
 exact wpAny_truthy_bool ⟨H1,I1,q⟩
theorem oH {e:Expr} {t:TE} (h:PE X e t) (he: ∀whole,isTrue e X.env whole=(do let v <-whole;standAt e.pos;holding [v] (truthy v)):=by intro _;rfl):PT X e (tB t):=by
 intro pins s σ H Q I hw
 refine isTrue_plain (bU (h pins s σ H _ I hw) fun v s1 ⟨x,H1,I1,r1,q1⟩=>?_) (he _)
 obtain ⟨d,rfl,q⟩:=q1
 cases r1
 exact wpAny_truthy_bool ⟨H1,I1,q⟩
variable {tA Jv:TT} {rest:List Expr}
noncomputable def K3 (t u:TT):TT:=fun σ H Q=>t σ H fun c H1=>if c=true then u σ H1 Q else Q false H1
noncomputable def Uu (t u:TT):TT:=fun σ H Q=>t σ H fun c H1=>if c=true then Q true H1 else u σ H1 Q
noncomputable def K4 (t:TT):TT:=fun σ H Q=>t σ H fun c H1=>Q (!c) H1
theorem g7 (ha:PT X a tA):PW X (.BoolOp .And [a] pos) tA:=by
 intro wh pins s σ H Q I h
 refine isTrue_and (bU (ha pins s σ H Q I h) fun c s1 e=>?_)
 cases c with
 | true=>exact isTrue_and_nil e
 | false=>exact e
theorem kM (ha:PT X a tA):PW X (.BoolOp .Or [a] pos) tA:=by
 intro wh pins s σ H Q I h
 refine isTrue_or (bU (ha pins s σ H Q I h) fun c s1 e=>?_)
 cases c with
 | false=>exact isTrue_or_nil e
 | true=>exact e
theorem gC (ha:PT X a tA) (hb:PW X (.BoolOp .And (b::rest) pos) Jv):PW X (.BoolOp .And (a::b::rest) pos) (K3 tA Jv):=by
 intro wh pins s σ H Q I h
 refine isTrue_and (bU (ha pins s σ H _ I h) fun c s1 ⟨H1,I1,q1⟩=>?_)
 cases c with
 | true=>exact hb wh pins s1 σ H1 Q I1 q1
 | false=>exact ⟨H1,I1,q1⟩
theorem p7 (ha:PT X a tA) (hb:PW X (.BoolOp .Or (b::rest) pos) Jv):PW X (.BoolOp .Or (a::b::rest) pos) (Uu tA Jv):=by
 intro wh pins s σ H Q I h
 refine isTrue_or (bU (ha pins s σ H _ I h) fun c s1 ⟨H1,I1,q1⟩=>?_)
 cases c with
 | true=>exact ⟨H1,I1,q1⟩
 | false=>exact hb wh pins s1 σ H1 Q I1 q1
theorem iD (ha:PT X a tA):PT X (.UnaryOp .Not a pos) (K4 tA):=by
 intro pins s σ H Q I h
 exact isTrue_not (ha pins s σ H (fun c H1=>Q (!c) H1) I h)
noncomputable def Gf (ta tb:TE):TE:=fun σ H Q=>ta σ H fun x H1=> ∃c,x= .bl c/\if c=true then tb σ H1 Q else Q (.bl false) H1
theorem C8 {op} {t:TE} (h:PE X a t):PE X (.BoolOp op [a] pos) t:=fun pins s σ H Q I hw=>BoolOp_one (h pins s σ H Q I hw)
theorem C9 (ha:PE X a ta) (hb:PE X (.BoolOp .And (b::rest) pos) tb):PE X (.BoolOp .And (a::b::rest) pos) (Gf ta tb):=by
 intro pins s σ H Q I h
 refine BoolOp_and (bU (ha pins s σ H _ I h) fun v s1 ⟨x,H1,I1,r1,q1⟩=>?_)
 obtain ⟨c,rfl,q1⟩:=q1
 cases r1
 refine wpAny_truthy_bool ?_
 cases c with
 | true=>exact hb pins s1 σ H1 Q I1 q1
 | false=>exact ⟨.bl false,H1,I1,rfl,q1⟩
end
end L2
namespace L2
open PySem PySem.Spec PyProof.Rows
noncomputable def aT (K:PySem.W.Frag) (H:Hp) (a:Addr) (xs:List V):Prop:=
 Rd H a (.lst xs)\/
  ∃(o:Obj) (ay:Array Value) (n:Nat),K.lookup a=some o/\o.cls= .type "list"/\o.dict=none/\o.data= .seq ay n/\ay.size<=sizeLine/\Vals xs ay.toList
noncomputable def aW (K:PySem.W.Frag) (H:Hp) (a:Addr) (xs:List V):Prop:=
 Rd H a (.tup xs)\/
  ∃(o:Obj) (ay:Array Value) (n:Nat),K.lookup a=some o/\o.cls= .type "tuple"/\o.data= .seq ay n/\ay.size<=sizeLine/\Vals xs ay.toList
noncomputable def K5:Value->Option V
 | .none=>some .bW
 | .bool b=>some (.bl b)
 | .int i _=>some (.int i)
 | .str x _=>some (.str x)
 | .bytes b _=>some (.vf b)
 | .float b _=>some (.FV b)
 | .ref a=>some (.ref a)
 | .type n=>some (.ty n)
 | _=>none
theorem RelV.abs {x:V} {u:Value} (r:RelV x u):K5 u=some x:=by
 cases x with
 | bW=>cases r;rfl
 | bl _=>cases r;rfl
 | int _=>obtain ⟨t,rfl⟩:=r;rfl
 | str _=>obtain ⟨t,rfl⟩:=r;rfl
 | vf _=>obtain ⟨t,rfl⟩:=r;rfl
 | FV _=>obtain ⟨t,rfl⟩:=r;rfl
 | ref _=>cases r;rfl
 | ty _=>cases r;rfl
theorem RelV.inj {x y:V} {u:Value} (r:RelV x u) (q:RelV y u):x=y:=Option.some.inj (r.abs.symm.trans q.abs)
theorem Vals.inj: ∀{xs ys:List V} {us:List Value},Vals xs us->Vals ys us->xs=ys
 | _,_,_, .nil, .nil=>rfl
 | _,_,_, .cons r t, .cons r' t'=>by rw[r.inj r',Vals.inj t t']
section
variable {X:Cx} {pins:List (Addr×Obj)} {σ:St} {H:Hp} {s:Shared} {a:Addr} {xs ys:List V}
theorem aT.of {K:PySem.W.Frag} (h:H a=some (.lst xs)):aT K H a xs:= .inl (.inl h)
theorem aW.of {K:PySem.W.Frag} (h:H a=some (.tup xs)):aW K H a xs:= .inl (.inl h)
theorem Inv.list (I:Inv X pins σ H s) (h:aT X.K H a xs): ∃ay:List Value,Vals xs ay/\PlainL s.heap a ay.toArray/\xs.length<=sizeLine:=by
 rcases h with h | ⟨o,ay,n,hk,hc,hd,hs,hz,r⟩
 ·obtain ⟨z,ay,n,r,e⟩:=h.ok I.bh
  exact ⟨ay,r,⟨_,n,e,rfl,rfl,rfl⟩,z⟩
 ·refine ⟨ay.toList,r,⟨o,n,I.Fs a o hk,hc,hd,by simpa using hs⟩,?_⟩
  have e:=r.length
  simp only[Array.length_toList]at e
  omega
theorem Inv.tuple (I:Inv X pins σ H s) (h:aW X.K H a xs): ∃ay:List Value,Vals xs ay/\IsTup s.heap a ay.toArray/\xs.length<=sizeLine:=by
 rcases h with h | ⟨o,ay,n,hk,hc,hs,hz,r⟩
 ·obtain ⟨z,ay,r,p⟩:=h.ok I.bh
  exact ⟨ay,r,p,z⟩
 ·refine ⟨ay.toList,r,⟨o,I.Fs a o hk,hc,n,by simpa using hs⟩,?_⟩
  have e:=r.length
  simp only[Array.length_toList]at e
  omega
theorem Inv.kN (I:Inv X pins σ H s) (h:aT X.K H a xs) (h':aT X.K H a ys):xs=ys:=by
 obtain ⟨ay,r,⟨o,n,e,_,_,d⟩,_⟩:=I.list h
 obtain ⟨its',r',⟨o',n',e',_,_,d'⟩,_⟩:=I.list h'
 rw[e]at e';cases e'
 rw[d]at d'
 injection d' with d1 _
 have:ay=its':=by simpa using congrArg Array.toList d1
 subst this
 exact r.inj r'
theorem Inv.jJ (I:Inv X pins σ H s) (h:aW X.K H a xs) (h':aW X.K H a ys):xs=ys:=by
 obtain ⟨ay,r,⟨o,e,_,n,d⟩,_⟩:=I.tuple h
 obtain ⟨its',r',⟨o',e',_,n',d'⟩,_⟩:=I.tuple h'
 rw[e]at e';cases e'
 rw[d]at d'
 injection d' with d1 _
 have:ay=its':=by simpa using congrArg Array.toList d1
 subst this
 exact r.inj r'
end
noncomputable abbrev Cx.mM (X:Cx) (E:Value->Shared->Prop):Cx:={ X with xe:=E }
noncomputable abbrev Cx.Jw (X:Cx):Cx:=X.mM fun _ _=>False
theorem Cx.Ok.mM {X:Cx} (ok:X.Ok) (E:Value->Shared->Prop):(X.mM E).Ok:=
 ⟨ok.mod,ok.kind,ok.glob,ok.blt,ok.above,ok.inj,ok.has,ok.F_,ok.hd,ok.frames,ok.Ju,ok.RX,ok.bs,ok.BJ,ok.xF,ok.Ah,ok.kK,ok.Fq⟩
theorem Cx.Ok.gD {X:Cx} {E:Value->Shared->Prop} (ok:(X.mM E).Ok):X.Ok:=
 ⟨ok.mod,ok.kind,ok.glob,ok.blt,ok.above,ok.inj,ok.has,ok.F_,ok.hd,ok.frames,ok.Ju,ok.RX,ok.bs,ok.BJ,ok.xF,ok.Ah,ok.kK,ok.Fq⟩
section
variable {X:Cx} {pins:List (Addr×Obj)} {σ:St} {H:Hp} {s:Shared} {E:Value->Shared->Prop}
theorem Inv.mM (I:Inv X pins σ H s) (E:Value->Shared->Prop):Inv (X.mM E) pins σ H s:=⟨I.ok.mM E,I.os,I.bare,I.base,I.loc,I.cell,I.free,I.gB,I.pin,I.bh,I.len⟩
theorem Inv.gD (I:Inv (X.mM E) pins σ H s):Inv X pins σ H s:=⟨I.ok.gD,I.os,I.bare,I.base,I.loc,I.cell,I.free,I.gB,I.pin,I.bh,I.len⟩
theorem SP.gD {D:Ends} {f:Flow} {s':Shared} (h:SP (X.mM E) pins D f s'):SP X pins D f s':=by
 cases f with
 | next=>obtain ⟨σ',H',I,q⟩:=h;exact ⟨σ',H',I.gD,q⟩
 | brk=>obtain ⟨σ',H',I,q⟩:=h;exact ⟨σ',H',I.gD,q⟩
 | cont=>obtain ⟨σ',H',I,q⟩:=h;exact ⟨σ',H',I.gD,q⟩
 | ret u=>obtain ⟨v,σ',H',I,r,q⟩:=h;exact ⟨v,σ',H',I.gD,r,q⟩
theorem vk.Jw {st:List Stmt} {t:TS} (h:vk X.Jw st t):vk X st t:=fun pins s σ H D I hw=>
 wpAny_mono (h pins s σ H D (I.mM _) hw) (fun _ _ q=>q.gD) fun _ _ z=>False.elim z
end
section
variable {X:Cx} {st:Stmt} {rest:List Stmt} {t u:TS} {e:Expr} {te:TE} {pos:Pos}
noncomputable def Gg:TS:=fun D σ H=>D.nx σ H
noncomputable def K6 (t u:TS):TS:=fun D σ H=>t { D with nx:=u D } σ H
theorem a_:vk X [] Gg:=fun _ _ σ H _ I h=>wpAny_execs_nil ⟨σ,H,I,h⟩
theorem af (h1:PS X st t) (h2:vk X rest u):vk X (st::rest) (K6 t u):=by
 intro pins s σ H D I h
 refine wpAny_execs_cons (bU (h1 pins s σ H { D with nx:=u D } I h) fun f s1 q=>?_)
 cases f with
 | next=>
  obtain ⟨σ',H',I',q⟩:=q
  exact h2 pins s1 σ' H' D I' q
 | ret v=>exact q
 | brk=>exact q
 | cont=>exact q
theorem ai (h1:PS X st t):vk X [st] t:=by
 intro pins s σ H D I h
 refine wpAny_execs_cons (bU (h1 pins s σ H D I h) fun f s1 q=>?_)
 cases f with
 | next=>exact wpAny_execs_nil q
 | ret v=>exact q
 | brk=>exact q
 | cont=>exact q
theorem Inv.quiet {pins:List (Addr×Obj)} {σ:St} {H:Hp} {s:Shared} (I:Inv X pins σ H s):interactive X.env=false:=by simp[interactive,I.ok.kind]
noncomputable def Gh (te:TE):TS:=fun D σ H=>te σ H fun _ H1=>D.nx σ H1
theorem ba (he:PE X e te) (hs:swapsWith e none pos.line X.env=pure false:=by rfl):PS X (.Expr e pos) (Gh te):=by
 intro pins s σ H D I h
 exact wpAny_Expr_any (bU (he pins s σ H _ I h) fun v s1 ⟨x,H1,I1,r1,q1⟩=>⟨σ,H1,I1,q1⟩) I.quiet hs
noncomputable def K7 (te:TE):TS:=fun D σ H=>te σ H D.rt
theorem aH (he:PE X e te):PS X (.Return (some e) pos) (K7 te):=by
 intro pins s σ H D I h
 exact wpAny_Return_some (bU (he pins s σ H _ I h) fun v s1 ⟨x,H1,I1,r1,q1⟩=>⟨x,σ,H1,I1,r1,q1⟩)
noncomputable def K8 (c:TT) (t u:TS):TS:=fun D σ H=>c σ H fun b H1=>if b=true then t D σ H1 else u D σ H1
theorem bH {c:Expr} {a b:List Stmt} {tc:TT} (hc:PT X c tc) (ha:vk X a t) (hb:vk X b u):PS X (.If c a b pos) (K8 tc t u):=by
 intro pins s σ H D I h
 refine wpAny_If (bU (hc pins s σ H _ I h) fun d s1 ⟨H1,I1,q1⟩=>?_)
 cases d with
 | true=>exact ha pins s1 σ H1 D I1 q1
 | false=>exact hb pins s1 σ H1 D I1 q1
noncomputable def C_:TS:=fun _ _ _=>False
theorem iY:PS X st C_:=fun _ _ _ _ _ _ h=>h.elim
end
noncomputable abbrev TG:=V->St->Hp->(St->Hp->Prop)->Prop
noncomputable abbrev BN:=List V->St->Hp->(St->Hp->Prop)->Prop
noncomputable def PG (X:Cx) (target:Expr) (t:TG):Prop:=
 ∀(pins:List (Addr×Obj)) (s:Shared) (σ:St) (H:Hp) (v:V) (u:Value) (Q:St->Hp->Prop),Inv X pins σ H s->RelV v u->t v σ H Q->
  wpAny (model X.prog X.w) X.A (assign target X.env u) (fun _ s'=> ∃σ' H',Inv X pins σ' H' s'/\Q σ' H') X.xe s
noncomputable def Gi (X:Cx) (ts:List Expr) (t:BN):Prop:=
 ∀(pins:List (Addr×Obj)) (s:Shared) (σ:St) (H:Hp) (vs:List V) (us:List Value) (Q:St->Hp->Prop),Inv X pins σ H s->Vals vs us->t vs σ H Q->
  wpAny (model X.prog X.w) X.A (assignInOrder ((assignEach ts X.env).map (·.2)) us) (fun _ s'=> ∃σ' H',Inv X pins σ' H' s'/\Q σ' H') X.xe s
noncomputable abbrev Dc:=V->V->V->Hp->(Hp->Prop)->Prop
noncomputable def Gj (X:Cx) (t:Dc):Prop:=
 ∀(pins:List (Addr×Obj)) (s:Shared) (σ:St) (H:Hp) (o i v:V) (ov iv u:Value) (Q:Hp->Prop),Inv X pins σ H s->RelV o ov->RelV i iv->RelV v u->t o i v H Q->
  wpAny (model X.prog X.w) X.A (setItem ov iv u) (fun _ s'=> ∃H',Inv X pins σ H' s'/\Q H') X.xe s
noncomputable abbrev Jx:=V->V->Hp->VK->Prop
noncomputable def K9 (X:Cx) (op:Operator) (t:Jx):Prop:=
 ∀(pins:List (Addr×Obj)) (s:Shared) (σ:St) (H:Hp) (x y:V) (v u:Value) (Q:VK),Inv X pins σ H s->RelV x v->RelV y u->t x y H Q->
  wpAny (model X.prog X.w) X.A (inplaceOp op v u) (EP X pins σ Q) X.xe s
section
variable {X:Cx} {pos:Pos}
noncomputable def t_ (i:Nat):TG:=fun v σ H Q=>Q (σ.set i (some v)) H
theorem aw {i:Nat} {x:Str} (hN:X.N.Nodup) (hi:X.N[i]? =some x) (hx:Loc X.env.scope x) (hf:X.fn x=true\/X.env.scope.names.lookup x=some .local:=by first | exact .inl rfl | exact .inr rfl | assumption):PG X (.Name x pos) (t_ i):=by
 intro pins s σ H v u Q I r h
 exact wpAny_assign_Name (iX I hN hi hx r (fun s' I'=>⟨_,H,I',h⟩) hf)
noncomputable def K_:BN:=fun vs σ H Q=>vs=[]/\Q σ H
noncomputable def Gk (t:TG) (u:BN):BN:=fun vs σ H Q=> ∃v r,vs=v::r/\t v σ H fun σ' H'=>u r σ' H' Q
theorem cj:Gi X [] K_:=by
 intro pins s σ H vs us Q I r h
 obtain ⟨e,h⟩:=h
 subst e
 cases r
 exact assignInOrder_nil ⟨σ,H,I,h⟩
theorem aN {e:Expr} {es:List Expr} {t:TG} {u:BN} (h1:PG X e t) (h2:Gi X es u)
  (hs:(assignEach (e::es) X.env).map (·.2)=assign e X.env::(assignEach es X.env).map (·.2):=by rfl):Gi X (e::es) (Gk t u):=by
 intro pins s σ H vs us Q I r h
 obtain ⟨v,vr,e1,h⟩:=h
 subst e1
 cases r with
 | cons r rr=>
  rw[hs]
  refine assignInOrder_cons (bU (h1 pins s σ H _ _ _ I r h) fun _ s1 ⟨σ1,H1,I1,q1⟩=>?_)
  exact h2 pins s1 σ1 H1 _ _ Q I1 rr q1
noncomputable def Gm (K:PySem.W.Frag) (n:Nat) (t:BN):TG:=fun v σ H Q=> ∃a xs,v= .ref a/\aW K H a xs/\xs.length=n/\t xs σ H Q
theorem De {es:List Expr} {k:Nat} {t:BN} {n:Nat} (hc:X.calm=true) (h:Gi X es t)
  (hn:(assignEach es X.env).length=n:=by rfl) (La:(assignEach es X.env).findIdx? (·.1)=none:=by rfl):PG X (.Tuple es k pos) (Gm X.K n t):=by
 intro pins s σ H v u Q I r hw
 obtain ⟨a,xs,e1,hq,hl,hw⟩:=hw
 subst e1
 cases r
 obtain ⟨ay,rv,ht,hz⟩:=I.tuple hq
 refine assign_Tuple_tuple (I.ok.hd hc) ht (by simp[hn, <-hl,rv.length]) La fun h' hx=>?_
 have I1:Inv X pins σ H { s with heap:=h' }:=I.kept (t':=s.toks) fun b o e=>hx b o (Nat.ne_of_lt (Heap.lt_size e)) e
 exact h pins _ σ H xs _ Q I1 (by simpa using rv) hw
noncomputable def Lb (to ti:TE) (t:Dc):TG:=fun v σ H Q=>to σ H fun o H1=>ti σ H1 fun i H2=>t o i v H2 fun H3=>Q σ H3
theorem iE {o i:Expr} {to ti:TE} {t:Dc} (ho:PE X o to) (hi:PE X i ti) (hs:Gj X t)
  (ha: ∀v,assign (.Subscript o i pos) X.env v=(do
   let ov <-holding [v] (eval o X.env)
   let iv <-holding [v,ov] (eval i X.env)
   standAt pos
   holding [v,ov,iv] (setItem ov iv v)
   release [v,ov,iv] []):=by intro _;rfl):PG X (.Subscript o i pos) (Lb to ti t):=by
 intro pins s σ H v u Q I r h
 rw[ha]
 refine wpAny_bind (wpAny_holding (bU (ho pins s σ H _ I h) fun ov s1 ⟨x,H1,I1,r1,q1⟩=>?_))
 refine wpAny_bind (wpAny_holding (bU (hi pins s1 σ H1 _ I1 q1) fun iv s2 ⟨y,H2,I2,r2,q2⟩=>?_))
 refine wpAny_bind (wpAny_standAt (wpAny_bind (wpAny_holding (bU (hs pins s2 σ H2 x y v ov iv u _ I2 r1 r2 r q2) fun _ s3 ⟨H3,I3,q3⟩=>?_))))
 exact wpAny_release ⟨σ,H3,I3,q3⟩
noncomputable def Aj (te:TE) (g:TG):TS:=fun D σ H=>te σ H fun x H1=>g x σ H1 D.nx
theorem gE {tg e:Expr} {te:TE} {g:TG} (he:PE X e te) (hg:PG X tg g) (hs:swapsWithSole [tg] e pos.line X.env=pure false:=by rfl) (hw:swappedStores [tg] e X.env=pure none:=by rfl)
  (h1:(assignEach [tg] X.env).map (·.2)=[assign tg X.env]:=by rfl):PS X (.Assign [tg] e pos) (Aj te g):=by
 intro pins s σ H D I h
 refine wpAny_Assign_stores (bU (he pins s σ H _ I h) fun v s1 ⟨x,H1,I1,r1,q1⟩=>?_) hs hw
 rw[h1]
 exact bU (hg pins s1 σ H1 x v _ I1 r1 q1) fun _ s2 q=>q
theorem au {i:Nat} {x:Str} {e:Expr} {te:TE} {pos':Pos} (hN:X.N.Nodup) (hi:X.N[i]? =some x) (hx:Loc X.env.scope x) (he:PE X e te) (hs:swapsWith e (some (.Name x pos')) pos.line X.env=pure false:=by rfl) (hf:X.fn x=true\/X.env.scope.names.lookup x=some .local:=by first | exact .inl rfl | exact .inr rfl | assumption):
  PS X (.Assign [.Name x pos'] e pos) (Aj te (t_ i)):=by
 intro pins s σ H D I h
 refine wpAny_Assign_Name (bU (he pins s σ H _ I h) fun v s1 ⟨y,H1,I1,r1,q1⟩=>?_) hs
 exact iX I1 hN hi hx r1 (fun s2 I2=>⟨_,H1,I2,q1⟩) hf
noncomputable def Lc (i:Nat) (te:TE) (ti:Jx):TS:=fun D σ H=> ∃x,σ[i]? =some (some x)/\te σ H fun y H1=>ti x y H1 fun z H2=>D.nx (σ.set i (some z)) H2
theorem kO {i:Nat} {x:Str} {e:Expr} {te:TE} {op:Operator} {ti:Jx} {pos':Pos} (hN:X.N.Nodup) (hi:X.N[i]? =some x) (hx:Loc X.env.scope x) (he:PE X e te) (ho:K9 X op ti) (hf:X.fn x=true\/X.env.scope.names.lookup x=some .local:=by first | exact .inl rfl | exact .inr rfl | assumption):
  PS X (.AugAssign (.Name x pos') op e pos) (Lc i te ti):=by
 intro pins s σ H D I h
 obtain ⟨v,e1,h⟩:=h
 obtain ⟨m,hn,hl⟩:=I.loc
 have Uv:FZ X.env.scope x:=by rcases hx with k | k;exact .inl k;exact .inr (.inl k)
 obtain ⟨u,r,l⟩:=hl i x v hi e1 Uv
 refine wpAny_AugAssign_Name ?_
 have go:wpAny (model X.prog X.w) X.A (eval e X.env) (fun w s₂=>wpAny (model X.prog X.w) X.A (inplaceOp op u w) (fun r s₃=>wpAny (model X.prog X.w) X.A (storeName X.env x r) (fun _=>SP X pins D .next) X.xe s₃) X.xe s₂) X.xe s:=by
  refine bU (he pins s σ H _ I h) fun w s1 ⟨y,H1,I1,r1,q1⟩=>?_
  refine bU (ho pins s1 σ H1 v y u w _ I1 r r1 q1) fun z s2 ⟨zv,H2,I2,r2,q2⟩=>?_
  exact iX I2 hN hi hx r2 (fun s3 I3=>⟨_,H2,I3,q2⟩) hf
 rcases l with ⟨hk,hm⟩ | ⟨hk,c,hc,ft⟩
 ·exact wpAny_loadName_local I.ok.kind hk hn hm go
 ·rcases hk with hk | hk
  ·exact wpAny_loadName_cell I.ok.kind hk hc ft go
  ·rcases hx with k | k
   ·have:X.env.scope.names.lookup x=some .free:=hk
    rw[k]at this;cases this
   ·have:X.env.scope.names.lookup x=some .free:=hk
    rw[k]at this;cases this
noncomputable def R3 (f:Int->Int->Int):Jx:=fun x y H Q=> ∃i j,x= .int i/\y= .int j/\Q (.int (f i j)) H
theorem rL:K9 X .Add (R3 fun i j=>i+j):=by
 intro pins s σ H x y v u Q I r1 r2 h
 obtain ⟨i,j,e1,e2,q⟩:=h
 subst e1;subst e2
 obtain ⟨t,rfl⟩:=r1
 obtain ⟨t',rfl⟩:=r2
 exact iadd_int ⟨.int _,H,I.tok _,⟨_,rfl⟩,q⟩
theorem xG:K9 X .Sub (R3 fun i j=>i - j):=by
 intro pins s σ H x y v u Q I r1 r2 h
 obtain ⟨i,j,e1,e2,q⟩:=h
 subst e1;subst e2
 obtain ⟨t,rfl⟩:=r1
 obtain ⟨t',rfl⟩:=r2
 exact isub_int ⟨.int _,H,I.tok _,⟨_,rfl⟩,q⟩
end
section
variable {X:Cx} {pos:Pos}
end
structure It where
 go:Nat->Hp->Prop
 ua:Nat->Hp->V->Hp->Prop
 stop:Nat->Hp->Prop
noncomputable def km (X:Cx) (pins:List (Addr×Obj)) (H:Hp) (b:Addr):Prop:=
 H b=none/\b≠X.env.locals/\b∉X.fs/\(b∈X.ex\/X.s₀.heap.objs.size<=b)/\(∀x c,X.env.cells.lookup x=some c->c≠b)/\ ∀p∈X.pn++pins,p.1≠b
theorem Inv.iZ {X:Cx} {pins:List (Addr×Obj)} {σ:St} {H H':Hp} {s:Shared} {b:Addr} (I:Inv X pins σ H s) (hb:s.heap.objs.size<=b) (hn:H' b=none):km X pins H' b:=by
 refine ⟨hn,Nat.ne_of_gt (Nat.lt_of_lt_of_le I.lt hb),I.C2 hb, .inr (Nat.le_trans I.sz hb),fun x c e z=>?_,fun p hp z=>?_⟩
 ·obtain ⟨v,q⟩:=I.cell x c e
  exact absurd (Nat.lt_of_lt_of_le q.lt (by rw[z];exact hb)) (Nat.lt_irrefl _)
 ·exact absurd (Nat.lt_of_lt_of_le (Heap.lt_size (I.pin p hp).1) (by rw[z];exact hb)) (Nat.lt_irrefl _)
structure Turn (P:Program) (w:World) (K:PySem.W.Frag) (tg:Expr) (J:It) (fp:List Addr) (it:Addr) (tn:Nat->Heap->Prop):Prop where
 mem:it∈fp
 obj: ∀i h,tn i h-> ∀b∈fp, ∃o,h.get? b=some o/\ ∀v,o.data≠ .cell v
 keep: ∀i h h',tn i h->(∀b∈fp, ∀o,h.get? b=some o->h'.get? b=some o)->tn i h'
 item: ∀(X:Cx),X.prog=P->X.w=w->X.K=K->X.calm=true-> ∀(i:Nat) (pins:List (Addr×Obj)) (s:Shared) (σ:St) (H:Hp) (E:Value->Shared->Prop),Inv X pins σ H s->(∀b∈fp,km X pins H b)->tn i s.heap->J.go i H->
  wpAny (model P w) X.A (pyNext (.ref it)) (fun r s1=> ∃u,r=some u/\
   wpAny (model P w) X.A (letOwnedTupleGo tg (.ref it) u) (fun _ s2=> ∃x H',Inv X pins σ H' s2/\RelV x u/\J.ua i H x H'/\tn (i+1) s2.heap/\ ∀b∈fp,H' b=none) E s1) E s
 done: ∀(X:Cx),X.prog=P->X.w=w->X.K=K->X.calm=true-> ∀(i:Nat) (pins:List (Addr×Obj)) (s:Shared) (σ:St) (H:Hp) (E:Value->Shared->Prop),Inv X pins σ H s->(∀b∈fp,km X pins H b)->tn i s.heap->J.stop i H->
  wpAny (model P w) X.A (pyNext (.ref it)) (fun r s1=>r=none/\Inv X pins σ H s1) E s
 self: ∀(A:Around) (i:Nat) (s:Shared) (Q:Value->Shared->Prop) (E:Value->Shared->Prop),tn i s.heap->Q (.ref it) s->wpAny (model P w) A (pyIter (.ref it)) Q E s
noncomputable abbrev TI:=St->Hp->(It->Hp->Prop)->Prop
noncomputable def Ld (X:Cx) (pins:List (Addr×Obj)) (σ:St) (tg:Expr) (R:It->Hp->Prop) (Le:Value) (s2:Shared):Prop:=
 ∃(it:Addr) (fp:List Addr) (tn:Nat->Heap->Prop) (J:It) (H':Hp),Le= .ref it/\Inv X pins σ H' s2/\Turn X.prog X.w X.K tg J fp it tn/\tn 0 s2.heap/\(∀b∈fp,km X pins H' b)/\R J H'
noncomputable def PI (X:Cx) (tg iter:Expr) (wi:TI):Prop:=
 ∀(pins:List (Addr×Obj)) (s:Shared) (σ:St) (H:Hp) (R:It->Hp->Prop),Inv X pins σ H s->wi σ H R->
  wpAny (model X.prog X.w) X.A (eval iter X.env) (fun v s1=>wpAny (model X.prog X.w) X.A (pyIter v) (Ld X pins σ tg R) X.xe s1) X.xe s
theorem kP {M:Model} {A:Around} {E:Value->Shared->Prop} {s:Shared} {tg:Expr} {it:Addr} {u:Value} {o:Obj} {n:String} {vs:Array Value} {Q:Unit->Shared->Prop} (ho:s.heap.get? it=some o) (hc:o.cls= .type n) (hd:o.data= .fields vs)
  (hn:["enumerate","zip","dict_itemiterator","dict_reverseitemiterator","odict_iterator","itertools.zip_longest","itertools.pairwise"].contains n=false) (hQ:Q () s):wpAny M A (letOwnedTupleGo tg (.ref it) u) Q E s:=by
 unfold letOwnedTupleGo
 cases tg<;>first
  | exact wpAny_pure hQ
  |(cases u<;>first
    | exact wpAny_pure hQ
    |(refine wpAny_bind (wpAny_load ho ?_)
      rw[hc,hd]
      show wpAny M A (if (["enumerate","zip","dict_itemiterator","dict_reverseitemiterator","odict_iterator","itertools.zip_longest","itertools.pairwise"].contains n&&vs[0]? ==some (rawInt _))=true then _ else _) Q E s
      rw[if_neg (by intro h;rw[hn,Bool.false_and]at h;cases h)]
      exact wpAny_pure hQ))
noncomputable def Ft (K:PySem.W.Frag) (a:Addr):It:=
 ⟨fun i H=> ∃xs x,aT K H a xs/\xs[i]? =some x,fun i H x H'=>H'=H/\ ∀xs,aT K H a xs->xs[i]? =some x,fun i H=> ∃xs,aT K H a xs/\xs.length<=i⟩
noncomputable def Lf (K:PySem.W.Frag) (a:Addr):It:=
 ⟨fun i H=> ∃xs x,aW K H a xs/\xs[i]? =some x,fun i H x H'=>H'=H/\ ∀xs,aW K H a xs->xs[i]? =some x,fun i H=> ∃xs,aW K H a xs/\xs.length<=i⟩
noncomputable def BO (lo:Int) (n:Nat):It:=⟨fun i _=>i<n,fun i H x H'=>H'=H/\x= .int (lo+i),fun i _=>n<=i⟩
theorem vm {P:Program} {w:World} {K:PySem.W.Frag} {tg:Expr} (a it:Addr):Turn P w K tg (Ft K a) [it] it (fun i h=>h.IsListIter it a i) where
 mem:=by simp
 obj:=fun i h st b hb=>by
  have e:b=it:=by simpa using hb
  subst e
  obtain ⟨o,e,c,d⟩:=st
  exact ⟨o,e,fun v z=>by rw[d]at z;cases z⟩
 keep:=fun i h h' st k=>st.at fun o e=>k it (by simp) o e
 item:=by
  intro X hP hw hK hc i pins s σ H E I hf st hg
  subst hP hw hK
  obtain ⟨xs,x,hq,hx⟩:=hg
  obtain ⟨ay,rv,p,hz⟩:=I.list hq
  obtain ⟨u,hu,ru⟩:=rv.get hx
  obtain ⟨f0,f1,f2,f3,f4,f5⟩:=hf it (by simp)
  refine wpAny_pyNext_list_item st p.isList (x:=u) (by simpa using hu) fun h' iV sb=>?_
  have I1:Inv X pins σ H { s with heap:=h' }:=I.turned (t':=s.toks) (fun b o hb e=>(sb.2 b hb).trans e) f0 f1 f3 f4 f5
  obtain ⟨o,e,c,d⟩:=id iV
  exact ⟨u,rfl,kP (s:={ s with heap:=h' }) e c d (by decide) ⟨x,H,I1,ru,⟨rfl,fun ys hy=>by rw[I.kN hy hq];exact hx⟩,iV,fun b hb=>(hf b hb).1⟩⟩
 done:=by
  intro X hP hw hK hc i pins s σ H E I hf st hg
  subst hP hw hK
  obtain ⟨xs,hq,hx⟩:=hg
  obtain ⟨ay,rv,p,hz⟩:=I.list hq
  obtain ⟨f0,f1,f2,f3,f4,f5⟩:=hf it (by simp)
  have hl:=rv.length
  exact wpAny_pyNext_list_end (I.ok.hd hc) st p.isList (by simp;omega) fun h' eb=>⟨rfl,I.turned (t':=s.toks) (fun b o hb e=>eb b o hb e) f0 f1 f3 f4 f5⟩
 self:=fun _ _ _ _ _ st h=>wpAny_pyIter_listiter st h
theorem rM {P:Program} {w:World} {K:PySem.W.Frag} {tg:Expr} (a it:Addr):Turn P w K tg (Lf K a) [it] it (fun i h=>h.IsTupleIter it a i) where
 mem:=by simp
 obj:=fun i h st b hb=>by
  have e:b=it:=by simpa using hb
  subst e
  obtain ⟨o,e,c,d⟩:=st
  exact ⟨o,e,fun v z=>by rw[d]at z;cases z⟩
 keep:=fun i h h' st k=>st.at fun o e=>k it (by simp) o e
 item:=by
  intro X hP hw hK hc i pins s σ H E I hf st hg
  subst hP hw hK
  obtain ⟨xs,x,hq,hx⟩:=hg
  obtain ⟨ay,rv,p,hz⟩:=I.tuple hq
  obtain ⟨u,hu,ru⟩:=rv.get hx
  obtain ⟨f0,f1,f2,f3,f4,f5⟩:=hf it (by simp)
  refine wpAny_pyNext_tuple_item st (show s.heap.IsTuple a ay.toArray from p) (x:=u) (by simpa using hu) fun h' iV sb=>?_
  have I1:Inv X pins σ H { s with heap:=h' }:=I.turned (t':=s.toks) (fun b o hb e=>(sb.2 b hb).trans e) f0 f1 f3 f4 f5
  obtain ⟨o,e,c,d⟩:=id iV
  exact ⟨u,rfl,kP (s:={ s with heap:=h' }) e c d (by decide) ⟨x,H,I1,ru,⟨rfl,fun ys hy=>by rw[I.jJ hy hq];exact hx⟩,iV,fun b hb=>(hf b hb).1⟩⟩
 done:=by
  intro X hP hw hK hc i pins s σ H E I hf st hg
  subst hP hw hK
  obtain ⟨xs,hq,hx⟩:=hg
  obtain ⟨ay,rv,p,hz⟩:=I.tuple hq
  obtain ⟨f0,f1,f2,f3,f4,f5⟩:=hf it (by simp)
  have hl:=rv.length
  exact wpAny_pyNext_tuple_end (I.ok.hd hc) st (show s.heap.IsTuple a ay.toArray from p) (by simp;omega) fun h' eb=>⟨rfl,I.turned (t':=s.toks) (fun b o hb e=>eb b o hb e) f0 f1 f3 f4 f5⟩
 self:=fun _ _ _ _ _ st h=>wpAny_pyIter_tupleiter st h
theorem rN {P:Program} {w:World} {K:PySem.W.Frag} {tg:Expr} (it:Addr) (lo:Int) (n:Nat):Turn P w K tg (BO lo n) [it] it (fun i h=>IsRangeIter h it (lo+(i:Nat)*1) ((n:Int) - (i:Nat)) 1) where
 mem:=by simp
 obj:=fun i h st b hb=>by
  have e:b=it:=by simpa using hb
  subst e
  exact ⟨_,st,fun v z=>by
   have z':Data.fields _=Data.cell v:=z
   cases z'⟩
 keep:=fun i h h' st k=>k it (by simp) _ st
 item:=by
  intro X hP hw hK hc i pins s σ H E I hf st hg
  subst hP hw hK
  obtain ⟨f0,f1,f2,f3,f4,f5⟩:=hf it (by simp)
  have W:=Walks.range (prog:=X.prog) (w:=X.w) (I.ok.hd hc) it lo 1 n
  refine W.item i s _ _ hg st fun v h' tk hv iV kk=>?_
  obtain ⟨t,rfl⟩:=hv
  have I1:Inv X pins σ H { s with heap:=h',toks:=tk }:=I.turned (fun b o hb e=>kk b o (by simpa using hb) e) f0 f1 f3 f4 f5
  refine ⟨_,rfl,kP (s:={ s with heap:=h',toks:=tk }) (n:="range_iterator") iV rfl rfl (by decide) ⟨.int (lo+i),H,I1,⟨t,?_⟩,⟨rfl,rfl⟩,iV,fun b hb=>(hf b hb).1⟩⟩
  rw[Int.mul_one]
 done:=by
  intro X hP hw hK hc i pins s σ H E I hf st hg
  subst hP hw hK
  obtain ⟨f0,f1,f2,f3,f4,f5⟩:=hf it (by simp)
  exact wpAny_pyNext_range_end (I.ok.hd hc) st (by have:n<=i:=hg;omega) fun h' eb=>⟨rfl,I.turned (t':=s.toks) (fun b o hb e=>eb b o hb e) f0 f1 f3 f4 f5⟩
 self:=fun _ _ _ _ _ st h=>wpAny_pyIter_rangeiter st h
end L2
namespace L2
open PySem PySem.Spec PyProof.Rows
section
variable {X:Cx} {tg:Expr}
noncomputable def BP (K:PySem.W.Frag) (tl:TE):TI:=fun σ H R=>tl σ H fun x H1=> ∃a,x= .ref a/\(∃xs,aT K H1 a xs)/\R (Ft K a) H1
noncomputable def Gn (K:PySem.W.Frag) (tl:TE):TI:=fun σ H R=>tl σ H fun x H1=> ∃a,x= .ref a/\(∃xs,aW K H1 a xs)/\R (Lf K a) H1
theorem Ak {l:Expr} {tl:TE} (hl:PE X l tl):PI X tg l (BP X.K tl):=by
 intro pins s σ H R I h
 refine bU (hl pins s σ H _ I h) fun v s1 ⟨x,H1,I1,r1,q1⟩=>?_
 obtain ⟨a,e,⟨xs,hq⟩,q⟩:=q1
 subst e
 cases r1
 obtain ⟨ay,rv,p,hz⟩:=I1.list hq
 refine wpAny_pyIter_list p.isList ?_
 refine ⟨s1.heap.objs.size,[s1.heap.objs.size],_,_,H1,rfl,I1.kept (t':=s1.toks) fun b o e=>Heap.get?_push_of_some _ e,vm a _,⟨_,Heap.get?_push_size _ rfl,rfl,rfl⟩,fun b hb=>?_,q⟩
 have e:b=s1.heap.objs.size:=by simpa using hb
 subst e
 exact I1.iZ (Nat.le_refl _) (I1.bh.fresh (Nat.le_refl _))
theorem Df {l:Expr} {tl:TE} (hl:PE X l tl):PI X tg l (Gn X.K tl):=by
 intro pins s σ H R I h
 refine bU (hl pins s σ H _ I h) fun v s1 ⟨x,H1,I1,r1,q1⟩=>?_
 obtain ⟨a,e,⟨xs,hq⟩,q⟩:=q1
 subst e
 cases r1
 obtain ⟨ay,rv,p,hz⟩:=I1.tuple hq
 refine wpAny_pyIter_tuple (show s1.heap.IsTuple a ay.toArray from p) ?_
 refine ⟨s1.heap.objs.size,[s1.heap.objs.size],_,_,H1,rfl,I1.kept (t':=s1.toks) fun b o e=>Heap.get?_push_of_some _ e,rM a _,⟨_,Heap.get?_push_size _ rfl,rfl,rfl⟩,fun b hb=>?_,q⟩
 have e:b=s1.heap.objs.size:=by simpa using hb
 subst e
 exact I1.iZ (Nat.le_refl _) (I1.bh.fresh (Nat.le_refl _))
theorem p8 {pins:List (Addr×Obj)} {σ:St} {H:Hp} {s:Shared} {R:It->Hp->Prop} {E:Value->Shared->Prop} {lo hi:Int} {t u v:Tok} {tk:Nat} (I:Inv X pins σ H s) (h1: -(2 ^ 62)<=lo) (h2:lo<2 ^ 62) (h3: -(2 ^ 62)<=hi) (h4:hi<2 ^ 62)
  (q:R (BO lo (hi - lo).toNat) H):wpAny (model X.prog X.w) X.A (pyIter (.ref s.heap.objs.size)) (Ld X pins σ tg R) E { s with heap:=s.heap.push { cls:= .type "range",data:= .fields #[.int lo t, .int hi u, .int 1 v] },toks:=tk }:=by
 refine wpAny_pyIter_range (IsRange.new ..) (small_one h1 h2 h3 h4) ?_
 have I1:Inv X pins σ H { s with heap:=s.heap.push { cls:= .type "range",data:= .fields #[.int lo t, .int hi u, .int 1 v] },toks:=tk }:=I.kept fun b o e=>Heap.get?_push_of_some _ e
 refine ⟨(s.heap.push { cls:= .type "range",data:= .fields #[.int lo t, .int hi u, .int 1 v] }).objs.size,[(s.heap.push { cls:= .type "range",data:= .fields #[.int lo t, .int hi u, .int 1 v] }).objs.size],_,_,H,rfl,
  I1.kept (t':=tk) fun b o e=>Heap.get?_push_of_some _ e,rN _ lo (hi - lo).toNat,?_,fun b hb=>?_,q⟩
 ·have e1:lo+((0:Nat):Int)*1=lo:=by simp
  have e2:(((hi - lo).toNat:Nat):Int) - ((0:Nat):Int)=Builtin.Range.rangeSize lo hi 1:=by rw[rangeSize_one];split<;>omega
  show IsRangeIter _ _ (lo+((0:Nat):Int)*1) ((((hi - lo).toNat:Nat):Int) - ((0:Nat):Int)) 1
  rw[e1,e2]
  exact Heap.get?_push_size _ rfl
 ·have e:b=(s.heap.push { cls:= .type "range",data:= .fields #[.int lo t, .int hi u, .int 1 v] }).objs.size:=by simpa using hb
  subst e
  exact I1.iZ (Nat.le_refl _) (I1.bh.fresh (Nat.le_refl _))
noncomputable def Gp (ta:TA):TI:=fun σ H R=>ta σ H fun vs H1=> ∃j:Int,vs=[.int j]/\ -(2 ^ 62)<=j/\j<2 ^ 62/\R (BO 0 j.toNat) H1
noncomputable def Gq (ta:TA):TI:=fun σ H R=>ta σ H fun vs H1=> ∃i j:Int,vs=[.int i, .int j]/\(-(2 ^ 62)<=i/\i<2 ^ 62/\ -(2 ^ 62)<=j/\j<2 ^ 62)/\R (BO i (j - i).toNat) H1
theorem eE {a:Expr} {ta:TA} {p pos:Pos} (hg:Gl X "range") (hm:X.mg "range"=none) (ha:PA X [a] ta) (hs:starEach [a] X.env=[(false,eval a X.env)]:=by rfl):PI X tg (.Call (.Name "range" p) [a] [] pos) (Gp ta):=by
 intro pins s σ H R I h
 refine Call_ (cJ I hg hm boot_range (PyProof.Rows.callWith_type1 (bU (ha pos pins s σ H _ I h) fun us s1 ⟨vs,H1,I1,r1,q1⟩=>?_) hs rfl))
 obtain ⟨j,e,q1,q2,q⟩:=q1
 subst e
 cases r1 with
 | cons r rr=>
  cases rr
  obtain ⟨t,rfl⟩:=r
  exact call_range_1 (p8 I1 (by omega) (by omega) q1 q2 (by simpa using q))
theorem nc {a b:Expr} {ta:TA} {p pos:Pos} (hg:Gl X "range") (hm:X.mg "range"=none) (ha:PA X [a,b] ta) (hs:starEach [a,b] X.env=[(false,eval a X.env),(false,eval b X.env)]:=by rfl) (oI:starEach [b] X.env=[(false,eval b X.env)]:=by rfl):
  PI X tg (.Call (.Name "range" p) [a,b] [] pos) (Gq ta):=by
 intro pins s σ H R I h
 refine Call_ (cJ I hg hm boot_range (PyProof.Rows.callWith_type1 (bU (ha pos pins s σ H _ I h) fun us s1 ⟨vs,H1,I1,r1,q1⟩=>?_) (by rw[hs,oI]) (by rw[oI];rfl)))
 obtain ⟨i,j,e,⟨q1,q2,q3,q4⟩,q⟩:=q1
 subst e
 cases r1 with
 | cons r rr=>
  cases rr with
  | cons r' rr=>
   cases rr
   obtain ⟨t,rfl⟩:=r
   obtain ⟨t',rfl⟩:=r'
   exact call_range_2 (p8 I1 q1 q2 q3 q4 q)
noncomputable def Lg (wi:TI) (g:TG) (tb:TS):TS:=fun D σ H=>wi σ H fun J H1=> ∃W:Nat->Nat->St->Hp->Prop,(∃m,W 0 m σ H1)/\ ∀i m σ H,W i m σ H->
 (J.stop i H/\D.nx σ H)\/(J.go i H/\ ∃N:St->Hp->Prop,(∀σ' H',N σ' H'-> ∃m',m'<m/\W (i+1) m' σ' H')/\ ∀x H',J.ua i H x H'->g x σ H' fun σ2 H2=>tb { D with nx:=N,ct:=N,bk:=D.nx } σ2 H2)
noncomputable def kQ (fp:List Addr) (h:Heap):List (Addr×Obj):=fp.filterMap fun b=>(h.get? b).map fun o=>(b,o)
theorem fP {fp:List Addr} {h:Heap} {b:Addr} {o:Obj} (hb:b∈fp) (e:h.get? b=some o):(b,o)∈kQ fp h:=List.mem_filterMap.mpr ⟨b,hb,by rw[e];rfl⟩
theorem vn {fp:List Addr} {h:Heap} {p:Addr×Obj} (hp:p∈kQ fp h):p.1∈fp/\h.get? p.1=some p.2:=by
 obtain ⟨b,hb,e⟩:=List.mem_filterMap.mp hp
 cases q:h.get? b with
 | none=>rw[q]at e;cases e
 | some o=>
  rw[q]at e
  have e':(b,o)=p:=Option.some.inj e
  subst e'
  exact ⟨hb,q⟩
theorem Inv.pinned {pins:List (Addr×Obj)} {σ:St} {H:Hp} {s:Shared} {fp:List Addr} (I:Inv X pins σ H s) (hf: ∀b∈fp,km X pins H b) (ho: ∀b∈fp, ∃o,s.heap.get? b=some o/\ ∀v,o.data≠ .cell v):Inv X (pins++kQ fp s.heap) σ H s:=
 I.iW fun p hp=>(List.mem_append.mp hp).elim (fun z=>I.pin p (List.mem_append_right _ z)) fun z=>by
  obtain ⟨hb,e⟩:=vn z
  obtain ⟨f0,f1,f2,_⟩:=hf p.1 hb
  obtain ⟨o,e',d⟩:=ho p.1 hb
  rw[e]at e';cases e'
  exact ⟨e,f0,f1,f2,d⟩
theorem Inv.gF {pins pl:List (Addr×Obj)} {σ:St} {H:Hp} {s:Shared} (I:Inv X (pins++pl) σ H s):Inv X pins σ H s:=I.iW fun p hp=>I.pin p (List.mem_append_right _ (List.mem_append_left _ hp))
theorem bw {iter:Expr} {body:List Stmt} {wi:TI} {g:TG} {tb:TS} {pos:Pos} (hp:PassesOwn (model X.prog X.w) X.A X.env X.xe) (hc:X.calm=true) (hi:PI X tg iter wi) (hg:PG X tg g) (hb:vk X body tb)
  (hs: ∀x,foldedSetIterable iter X.env x=pure x:=by intro _;rfl):PS X (.For tg iter body [] pos) (Lg wi g tb):=by
 intro pins s σ H D I h
 refine wpAny_For (bU (hi pins s σ H _ I h) fun v s1 h1=>bU h1 fun Le s2 h2=>?_) hs
 obtain ⟨it,fp,tn,J,H2,e,I2,T,jE,f2,W,⟨m0,w0⟩,turn⟩:=h2
 subst e
 -- Uw stays true of Al Dg objects through Al loop
 have Dh: ∀{H':Hp},(∀b∈fp,H' b=none)-> ∀b∈fp,km X pins H' b:=fun hn b hb=>⟨hn b hb,(f2 b hb).2⟩
 refine codeAny_forLoop_any (fun n s'=> ∃i σ' H',Inv X pins σ' H' s'/\tn i s'.heap/\(∀b∈fp,H' b=none)/\W i n σ' H') ?_ m0 ⟨0,σ,H2,I2,jE,fun b hb=>(f2 b hb).1,w0⟩
 rintro n s3 ⟨i,σ3,H3,I3,Gr,Gs,w3⟩
 rcases turn i n σ3 H3 w3 with ⟨stop,qn⟩ | ⟨go,N,hN,step⟩
 ·refine wpAny_passesOwn hp (bU (T.done X rfl rfl rfl hc i pins s3 σ3 H3 X.xe I3 (Dh Gs) Gr stop) fun r s4 ⟨hr,I4⟩=>?_)
  subst hr
  exact wpAny_execs_nil ⟨σ3,H3,I4,qn⟩
 ·refine wpAny_passesOwn hp (bU (T.item X rfl rfl rfl hc i pins s3 σ3 H3 X.xe I3 (Dh Gs) Gr go) fun r s4 ⟨u,hr,h4⟩=>?_)
  subst hr
  refine wpAny_passesOwn hp (bU h4 fun _ s5 ⟨x,H5,I5,r5,y5,Di,Lh⟩=>?_)
  have Li:=I5.pinned (Dh Lh) (T.obj _ _ Di)
  refine wpAny_passesOwn hp (bU (hg _ s5 σ3 H5 x u _ Li r5 (step x H5 y5)) fun _ s6 ⟨σ6,H6,I6,q6⟩=>?_)
  refine wpAny_passesOwn hp (bU (hb _ s6 σ6 H6 _ I6 q6) fun f s7 q7=>?_)
  have again: ∀{σ7:St} {H7:Hp},Inv X (pins++kQ fp s5.heap) σ7 H7 s7->N σ7 H7-> ∃m,m<n/\ ∃i σ' H',Inv X pins σ' H' s7/\tn i s7.heap/\(∀b∈fp,H' b=none)/\W i m σ' H':=fun {σ7 H7} I7 n7=>by
   obtain ⟨m',hm,w7⟩:=hN σ7 H7 n7
   refine ⟨m',hm,i+1,σ7,H7,I7.gF,T.keep _ _ _ Di fun b hb o e=>(I7.pin (b,o) (List.mem_append_right _ (List.mem_append_right _ (fP hb e)))).1,fun b hb=>?_,w7⟩
   obtain ⟨o,e,d⟩:=T.obj _ _ Di b hb
   exact (I7.pin (b,o) (List.mem_append_right _ (List.mem_append_right _ (fP hb e)))).2.1
  cases f with
  | next=>obtain ⟨σ7,H7,I7,n7⟩:=q7;exact again I7 n7
  | cont=>obtain ⟨σ7,H7,I7,n7⟩:=q7;exact again I7 n7
  | brk=>obtain ⟨σ7,H7,I7,q7⟩:=q7;exact ⟨σ7,H7,I7.gF,q7⟩
  | ret v=>obtain ⟨x7,σ7,H7,I7,r7,q7⟩:=q7;exact ⟨x7,σ7,H7,I7.gF,r7,q7⟩
end
theorem gG {K:PySem.W.Frag} {a:Addr} {xs:List V} {g:TG} {tb:TS} {D:Ends} {σ:St} {H:Hp} (Pv:Nat->St->Hp->Prop) (h0:Pv 0 σ H) (hl: ∀i σ H,i<=xs.length->Pv i σ H->aT K H a xs)
  (hs: ∀i x σ H,xs[i]? =some x->Pv i σ H->g x σ H fun σ2 H2=>tb { D with nx:=Pv (i+1),ct:=Pv (i+1),bk:=D.nx } σ2 H2) (hd: ∀σ H,Pv xs.length σ H->D.nx σ H):
  ∃W:Nat->Nat->St->Hp->Prop,(∃m,W 0 m σ H)/\ ∀i m σ H,W i m σ H->
   ((Ft K a).stop i H/\D.nx σ H)\/((Ft K a).go i H/\ ∃N:St->Hp->Prop,(∀σ' H',N σ' H'-> ∃m',m'<m/\W (i+1) m' σ' H')/\ ∀x H',(Ft K a).ua i H x H'->g x σ H' fun σ2 H2=>tb { D with nx:=N,ct:=N,bk:=D.nx } σ2 H2):=by
 refine ⟨fun i m σ H=>m=xs.length - i/\i<=xs.length/\Pv i σ H,⟨xs.length,by simp,Nat.zero_le _,h0⟩,?_⟩
 rintro i m σ H ⟨rfl,hi,p⟩
 have q:=hl i σ H hi p
 by_cases cN:i<xs.length
 ·refine .inr ⟨⟨xs,xs[i],q,by simp[cN]⟩,Pv (i+1),fun σ' H' p'=>⟨xs.length - (i+1),by omega,rfl,cN,p'⟩,fun x H' y=>?_⟩
  obtain ⟨e,y⟩:=y
  subst e
  exact hs i x σ _ (y xs q) p
 ·have e:i=xs.length:=by omega
  subst e
  exact .inl ⟨⟨xs,q,Nat.le_refl _⟩,hd σ H p⟩
theorem fu {lo:Int} {n:Nat} {g:TG} {tb:TS} {D:Ends} {σ:St} {H:Hp} (Pv:Nat->St->Hp->Prop) (h0:Pv 0 σ H)
  (hs: ∀i σ H,i<n->Pv i σ H->g (.int (lo+i)) σ H fun σ2 H2=>tb { D with nx:=Pv (i+1),ct:=Pv (i+1),bk:=D.nx } σ2 H2) (hd: ∀σ H,Pv n σ H->D.nx σ H):
  ∃W:Nat->Nat->St->Hp->Prop,(∃m,W 0 m σ H)/\ ∀i m σ H,W i m σ H->
   ((BO lo n).stop i H/\D.nx σ H)\/((BO lo n).go i H/\ ∃N:St->Hp->Prop,(∀σ' H',N σ' H'-> ∃m',m'<m/\W (i+1) m' σ' H')/\ ∀x H',(BO lo n).ua i H x H'->g x σ H' fun σ2 H2=>tb { D with nx:=N,ct:=N,bk:=D.nx } σ2 H2):=by
 refine ⟨fun i m σ H=>m=n - i/\i<=n/\Pv i σ H,⟨n,by simp,Nat.zero_le _,h0⟩,?_⟩
 rintro i m σ H ⟨rfl,hi,p⟩
 by_cases cN:i<n
 ·refine .inr ⟨cN,Pv (i+1),fun σ' H' p'=>⟨n - (i+1),by omega,rfl,cN,p'⟩,fun x H' y=>?_⟩
  obtain ⟨e,y⟩:=y
  subst e y
  exact hs i σ _ cN p
 ·have e:i=n:=by omega
  subst e
  exact .inl ⟨Nat.le_refl _,hd σ H p⟩
end L2
namespace L2
open PySem PySem.Spec PyProof.Rows
noncomputable abbrev R2:=V->V->Hp->VK->Prop
noncomputable def fq (X:Cx) (f:Value->Value->Sem Value) (r:R2):Prop:=
 ∀(pins:List (Addr×Obj)) (s:Shared) (σ:St) (H:Hp) (x y:V) (v u:Value) (Q:VK),Inv X pins σ H s->RelV x v->RelV y u->r x y H Q->
  wpAny (model X.prog X.w) X.A (f v u) (EP X pins σ Q) X.xe s
noncomputable def Lj (X:Cx) (f:Value->Sem Value) (r:V->Hp->VK->Prop):Prop:=
 ∀(pins:List (Addr×Obj)) (s:Shared) (σ:St) (H:Hp) (x:V) (v:Value) (Q:VK),Inv X pins σ H s->RelV x v->r x H Q->
  wpAny (model X.prog X.w) X.A (f v) (EP X pins σ Q) X.xe s
noncomputable def cV (X:Cx) (f:Value) (r:List V->Hp->VK->Prop):Prop:=
 ∀(pins:List (Addr×Obj)) (s:Shared) (σ:St) (H:Hp) (xs:List V) (us:List Value) (Q:VK),Inv X pins σ H s->Vals xs us->r xs H Q->
  wpAny (model X.prog X.w) X.A (call f us) (EP X pins σ Q) X.xe s
noncomputable def Lk (X:Cx) (r:V->Hp->(Bool->Hp->Prop)->Prop):Prop:=
 ∀(pins:List (Addr×Obj)) (s:Shared) (σ:St) (H:Hp) (x:V) (v:Value) (Q:Bool->Hp->Prop),Inv X pins σ H s->RelV x v->r x H Q->
  wpAny (model X.prog X.w) X.A (truthy v) (TP X pins σ Q) X.xe s
noncomputable def Jy (r:R2) (ta tb:TE):TE:=fun σ H Q=>ta σ H fun x H1=>tb σ H1 fun y H2=>r x y H2 Q
noncomputable def Ux (r:V->Hp->VK->Prop) (ta:TE):TE:=fun σ H Q=>ta σ H fun x H1=>r x H1 Q
noncomputable def rI (C:Int->Int->Prop) (g:Int->Int->V):R2:=fun x y H Q=> ∃i j,x= .int i/\y= .int j/\C i j/\Q (g i j) H
noncomputable def zL (g:Int->Int->V):R2:=fun x y H Q=> ∃i j,x= .int i/\y= .int j/\Q (g i j) H
noncomputable def rU (g:Int->V):V->Hp->VK->Prop:=fun x H Q=> ∃i,x= .int i/\Q (g i) H
section
variable {X:Cx} {a b c:Expr} {ta tb tc:TE} {pos:Pos}
theorem Dj (ha:PE X a ta) (hb:PE X b tb) {pins:List (Addr×Obj)} {s:Shared} {σ:St} {H:Hp} {R:V->V->Hp->Prop} (I:Inv X pins σ H s)
  (h:ta σ H fun x H1=>tb σ H1 fun y H2=>R x y H2) {Q:Value->Shared->Prop} {f:Value->Value->Sem Value}
  (hf: ∀v u s2 x y H2,Inv X pins σ H2 s2->RelV x v->RelV y u->R x y H2->wpAny (model X.prog X.w) X.A (f v u) Q X.xe s2):
  wpAny (model X.prog X.w) X.A (eval a X.env) (fun v s₁=>wpAny (model X.prog X.w) X.A (eval b X.env) (fun u s₂=>wpAny (model X.prog X.w) X.A (f v u) Q X.xe s₂) X.xe s₁) X.xe s:=by
 refine bU (ha pins s σ H _ I h) fun v s1 ⟨x,H1,I1,r1,q1⟩=>?_
 refine bU (hb pins s1 σ H1 _ I1 q1) fun u s2 ⟨y,H2,I2,r2,q2⟩=>?_
 exact hf v u s2 x y H2 I2 r1 r2 q2
theorem aA {op:Operator} {r:R2} (ho:fq X (binaryOp op) r) (ha:PE X a ta) (hb:PE X b tb):PE X (.BinOp a op b pos) (Jy r ta tb):=by
 intro pins s σ H Q I h
 exact wpAny_BinOp (Dj ha hb I h fun v u s2 x y H2 I2 rx ry q=>ho pins s2 σ H2 x y v u Q I2 rx ry q)
theorem xH {op:UnaryOp} {r:V->Hp->VK->Prop} (ho:Lj X (unaryOp op) r) (ha:PE X a ta):PE X (.UnaryOp op a pos) (Ux r ta):=by
 intro pins s σ H Q I h
 exact UnaryOp_ (bU (ha pins s σ H _ I h) fun v s1 ⟨x,H1,I1,r1,q1⟩=>ho pins s1 σ H1 x v Q I1 r1 q1)
theorem Jz {f:Value->Value->Sem Value} {C:Int->Int->Prop} {g:Int->Int->Int}
  (rule: ∀(i j:Int) (t u:Tok) (s:Shared) (Q:Value->Shared->Prop) (E:Value->Shared->Prop),C i j->Q (.int (g i j) s.toks) { s with toks:=s.toks+1 }->wpAny (model X.prog X.w) X.A (f (.int i t) (.int j u)) Q E s):
  fq X f (rI C fun i j=> .int (g i j)):=by
 intro pins s σ H x y v u Q I rx ry h
 obtain ⟨i,j,rfl,rfl,hc,q⟩:=h
 obtain ⟨t,rfl⟩:=rx
 obtain ⟨t',rfl⟩:=ry
 exact rule i j t t' s _ _ hc ⟨.int (g i j),H,I.tok _,⟨_,rfl⟩,q⟩
theorem Gu {f:Value->Value->Sem Value} {g:Int->Int->Int}
  (rule: ∀(i j:Int) (t u:Tok) (s:Shared) (Q:Value->Shared->Prop) (E:Value->Shared->Prop),Q (.int (g i j) s.toks) { s with toks:=s.toks+1 }->wpAny (model X.prog X.w) X.A (f (.int i t) (.int j u)) Q E s):
  fq X f (zL fun i j=> .int (g i j)):=by
 intro pins s σ H x y v u Q I rx ry h
 obtain ⟨i,j,rfl,rfl,q⟩:=h
 obtain ⟨t,rfl⟩:=rx
 obtain ⟨t',rfl⟩:=ry
 exact rule i j t t' s _ _ ⟨.int (g i j),H,I.tok _,⟨_,rfl⟩,q⟩
theorem Am {f:Value->Value->Sem Value} {g:Int->Int->Bool}
  (rule: ∀(i j:Int) (t u:Tok) (s:Shared) (Q:Value->Shared->Prop) (E:Value->Shared->Prop),Q (.bool (g i j)) s->wpAny (model X.prog X.w) X.A (f (.int i t) (.int j u)) Q E s):
  fq X f (zL fun i j=> .bl (g i j)):=by
 intro pins s σ H x y v u Q I rx ry h
 obtain ⟨i,j,rfl,rfl,q⟩:=h
 obtain ⟨t,rfl⟩:=rx
 obtain ⟨t',rfl⟩:=ry
 exact rule i j t t' s _ _ ⟨.bl (g i j),H,I,rfl,q⟩
noncomputable def Ll (i j:Int):Prop:=0<j/\j<1073741824
noncomputable def Lm (i j:Int):Prop:=0<=j/\j<=1000000/\i.natAbs<2 ^ 64
noncomputable def Dk (i j:Int):Prop:=(-(2 ^ 64)<i/\i<2 ^ 64)\/(-(2 ^ 64)<j/\j<2 ^ 64)
theorem Dk.ok {i j:Int} (h:Dk i j):IntMulOk i j:=by
 rcases h with ⟨h1,h2⟩ | ⟨h1,h2⟩
 ·exact .of_left (intBits_le_64 h1 h2)
 ·exact .of_right (intBits_le_64 h1 h2)
theorem br:fq X (binaryOp .Add) (zL fun i j=> .int (i+j)):=Gu fun _ _ _ _ _ _ _ q=>add_int q
theorem cK:fq X (binaryOp .Sub) (zL fun i j=> .int (i - j)):=Gu fun _ _ _ _ _ _ _ q=>sub_int q
theorem gH:fq X (binaryOp .Mult) (rI Dk fun i j=> .int (i*j)):=Jz fun _ _ _ _ _ _ _ hc q=>mul_int q hc.ok
theorem oJ:fq X (binaryOp .FloorDiv) (rI Ll fun i j=> .int (i / j)):=Jz fun i j _ _ _ _ _ hc q=>by
 have h1:(0:Int)<j:=hc.1
 have h2:j<1073741824:=hc.2
 exact floordiv_int (by omega) (by rw[Int.fdiv_eq_ediv_of_nonneg i (by omega)];exact q) (.inl (PyProof.noPylong_small (by omega)))
theorem fQ:fq X (binaryOp .Mod) (rI (fun _ j=>0<j) fun i j=> .int (i%j)):=Jz fun i j _ _ _ _ _ hc q=>by
 have h1:(0:Int)<j:=hc
 exact mod_int' (by omega) (by rw[Int.fmod_eq_emod_of_nonneg i (by omega)];exact q)
theorem xI:fq X (binaryOp .Pow) (rI Lm fun i j=> .int (i ^ j.toNat)):=Jz fun _ _ _ _ _ _ _ hc q=>pow_int_small hc.1 hc.2.1 hc.2.2 q
theorem Uy {f:Value->Sem Value} {g:Int->Int}
  (rule: ∀(i:Int) (t:Tok) (s:Shared) (Q:Value->Shared->Prop) (E:Value->Shared->Prop),Q (.int (g i) s.toks) { s with toks:=s.toks+1 }->wpAny (model X.prog X.w) X.A (f (.int i t)) Q E s):
  Lj X f (rU fun i=> .int (g i)):=by
 intro pins s σ H x v Q I rx h
 obtain ⟨i,rfl,q⟩:=h
 obtain ⟨t,rfl⟩:=rx
 exact rule i t s _ _ ⟨.int (g i),H,I.tok _,⟨_,rfl⟩,q⟩
theorem rO:Lj X (unaryOp .USub) (rU fun i=> .int (-i)):=Uy fun _ _ _ _ _ q=>neg_int q
end
noncomputable def Gv:V->V->Bool
 | .bW, .bW=>true | .bW, .int _=>true | .int _, .bW=>true | .bW, .bl _=>true | .bl _, .bW=>true | .bW, .str _=>true | .str _, .bW=>true
 | .int _, .int _=>true | .bl _, .bl _=>true | .str _, .str _=>true | .vf _, .vf _=>true
 | .int _, .str _=>true | .str _, .int _=>true | .bl _, .str _=>true | .str _, .bl _=>true
 | _,_=>false
noncomputable def Uz:R2:=fun x y H Q=>Gv x y=true/\Q (.bl (decide (x=y))) H
noncomputable def UA:R2:=fun x y H Q=>Gv x y=true/\Q (.bl (!decide (x=y))) H
theorem ub {i j:Int}:decide (V.int i=V.int j)=(i==j):=by
 rw[Bool.eq_iff_iff]
 simp
theorem xJ {i j:Bool}:decide (V.bl i=V.bl j)=(i==j):=by
 rw[Bool.eq_iff_iff]
 simp
theorem uc {i j:Str}:decide (V.str i=V.str j)=(i==j):=by
 rw[Bool.eq_iff_iff]
 simp
theorem ud {i j:Array UInt8}:decide (V.vf i=V.vf j)=(i.toList==j.toList):=by
 rw[Bool.eq_iff_iff]
 cases i
 cases j
 simp
section
variable {X:Cx} {a b c:Expr} {ta tb tc:TE} {pos:Pos}
theorem bc {pins:List (Addr×Obj)} {σ:St} {H:Hp} {s:Shared} {Q:VK} {k k':Bool} (I:Inv X pins σ H s) (q:Q (.bl k) H) (e:k=k'):EP X pins σ Q (.bool k') s:=by
 subst e
 exact ⟨.bl k,H,I,rfl,q⟩
theorem BQ:fq X (compareOp .Eq) Uz:=by
 intro pins s σ H x y v u Q I rx ry h
 obtain ⟨hs,q⟩:=h
 cases x with
 | bW=>
  cases rx
  cases y with
  | bW=>cases ry;exact PySem.EqNone.eq_none_none (bc I q (by simp))
  | bl j=>cases ry;exact PySem.EqNone.eq_none_bool (bc I q (by simp))
  | int j=>obtain ⟨t',rfl⟩:=ry;exact PySem.EqNone.eq_none_int (bc I q (by simp))
  | str j=>obtain ⟨t',rfl⟩:=ry;exact PySem.EqNone.eq_none_str (bc I q (by simp))
  | _=>exact absurd (show false=true from hs) Bool.false_ne_true
 | bl i=>
  cases rx
  cases y with
  | bW=>cases ry;exact PySem.EqNone.eq_bool_none (bc I q (by simp))
  | bl j=>cases ry;exact eq_bool (bc I q xJ)
  | str j=>obtain ⟨t',rfl⟩:=ry;exact PySem.EqMixed.eq_bool_str (bc I q (by simp))
  | _=>exact absurd (show false=true from hs) Bool.false_ne_true
 | int i=>
  obtain ⟨t,rfl⟩:=rx
  cases y with
  | bW=>cases ry;exact PySem.EqNone.eq_int_none (bc I q (by simp))
  | int j=>obtain ⟨t',rfl⟩:=ry;exact eq_int (bc I q ub)
  | str j=>obtain ⟨t',rfl⟩:=ry;exact PySem.EqMixed.eq_int_str (bc I q (by simp))
  | _=>exact absurd (show false=true from hs) Bool.false_ne_true
 | str i=>
  obtain ⟨t,rfl⟩:=rx
  cases y with
  | bW=>cases ry;exact PySem.EqNone.eq_str_none (bc I q (by simp))
  | bl j=>cases ry;exact PySem.EqMixed.eq_str_bool (bc I q (by simp))
  | int j=>obtain ⟨t',rfl⟩:=ry;exact PySem.EqMixed.eq_str_int (bc I q (by simp))
  | str j=>obtain ⟨t',rfl⟩:=ry;exact eq_str (bc I q uc)
  | _=>exact absurd (show false=true from hs) Bool.false_ne_true
 | vf i=>
  obtain ⟨t,rfl⟩:=rx
  cases y with
  | vf j=>obtain ⟨t',rfl⟩:=ry;exact PySem.W.eq_bytes (bc I q ud)
  | _=>exact absurd (show false=true from hs) Bool.false_ne_true
 | _=>cases y<;>exact absurd (show false=true from hs) Bool.false_ne_true
theorem BR:fq X (compareOp .NotEq) UA:=by
 intro pins s σ H x y v u Q I rx ry h
 obtain ⟨hs,q⟩:=h
 cases x with
 | bW=>
  cases rx
  cases y with
  | bW=>cases ry;exact PySem.EqNone.ne_none_none (bc I q (by simp))
  | bl j=>cases ry;exact PySem.EqNone.ne_none_bool (bc I q (by simp))
  | int j=>obtain ⟨t',rfl⟩:=ry;exact PySem.EqNone.ne_none_int (bc I q (by simp))
  | str j=>obtain ⟨t',rfl⟩:=ry;exact PySem.EqNone.ne_none_str (bc I q (by simp))
  | _=>exact absurd (show false=true from hs) Bool.false_ne_true
 | bl i=>
  cases rx
  cases y with
  | bW=>cases ry;exact PySem.EqNone.ne_bool_none (bc I q (by simp))
  | bl j=>cases ry;exact ne_bool (bc I q (congrArg not xJ))
  | str j=>obtain ⟨t',rfl⟩:=ry;exact PySem.EqMixed.ne_bool_str (bc I q (by simp))
  | _=>exact absurd (show false=true from hs) Bool.false_ne_true
 | int i=>
  obtain ⟨t,rfl⟩:=rx
  cases y with
  | bW=>cases ry;exact PySem.EqNone.ne_int_none (bc I q (by simp))
  | int j=>obtain ⟨t',rfl⟩:=ry;exact ne_int (bc I q (congrArg not ub))
  | str j=>obtain ⟨t',rfl⟩:=ry;exact PySem.EqMixed.ne_int_str (bc I q (by simp))
  | _=>exact absurd (show false=true from hs) Bool.false_ne_true
 | str i=>
  obtain ⟨t,rfl⟩:=rx
  cases y with
  | bW=>cases ry;exact PySem.EqNone.ne_str_none (bc I q (by simp))
  | bl j=>cases ry;exact PySem.EqMixed.ne_str_bool (bc I q (by simp))
  | int j=>obtain ⟨t',rfl⟩:=ry;exact PySem.EqMixed.ne_str_int (bc I q (by simp))
  | str j=>obtain ⟨t',rfl⟩:=ry;exact ne_str (bc I q (congrArg not uc))
  | _=>exact absurd (show false=true from hs) Bool.false_ne_true
 | vf i=>
  obtain ⟨t,rfl⟩:=rx
  cases y with
  | vf j=>obtain ⟨t',rfl⟩:=ry;exact PySem.W.ne_bytes (bc I q (congrArg not ud))
  | _=>exact absurd (show false=true from hs) Bool.false_ne_true
 | _=>cases y<;>exact absurd (show false=true from hs) Bool.false_ne_true
theorem kR:fq X (compareOp .Lt) (zL fun i j=> .bl (decide (i<j))):=Am fun _ _ _ _ _ _ _ q=>lt_int q
theorem kT:fq X (compareOp .LtE) (zL fun i j=> .bl (decide (i<=j))):=Am fun _ _ _ _ _ _ _ q=>le_int q
theorem i0:fq X (compareOp .Gt) (zL fun i j=> .bl (decide (j<i))):=Am fun _ _ _ _ _ _ _ q=>gt_int q
theorem BS:fq X (compareOp .GtE) (zL fun i j=> .bl (decide (j<=i))):=Am fun _ _ _ _ _ _ _ q=>ge_int q
theorem vo:fq X (compareOp .Lt) (fun x y H Q=> ∃i j,x= .str i/\y= .str j/\Q (.bl (decide (i.cps.toList<j.cps.toList))) H):=by
 intro pins s σ H x y v u Q I rx ry h
 obtain ⟨i,j,rfl,rfl,q⟩:=h
 obtain ⟨t,rfl⟩:=rx
 obtain ⟨t',rfl⟩:=ry
 exact lt_str (bc I q rfl)
theorem vp:fq X (compareOp .In) (fun x y H Q=> ∃i j,x= .str i/\y= .str j/\Q (.bl (!(Builtin.Str.occurrences j i 0 j.length 1).isEmpty)) H):=by
 intro pins s σ H x y v u Q I rx ry h
 obtain ⟨i,j,rfl,rfl,q⟩:=h
 obtain ⟨t,rfl⟩:=rx
 obtain ⟨t',rfl⟩:=ry
 exact in_str (bc I q rfl)
theorem ue:fq X (compareOp .IsNot) (fun x y H Q=>y= .bW/\Q (.bl (!decide (x= .bW))) H):=by
 intro pins s σ H x y v u Q I rx ry h
 obtain ⟨rfl,q⟩:=h
 cases ry
 refine isnot_none_gen (bc I q ?_)
 cases x<;>first
  |(cases rx;rfl)
  |(obtain ⟨t,rfl⟩:=rx;rfl)
theorem aP (b:Expr) {op:CmpOp} (h:op≠ .In:=by decide) (h2:op≠ .NotIn:=by decide):behindInMarks op b=false:=by
 have e1:(op==CmpOp.In)=false:=by cases op<;>first | rfl | exact absurd rfl h
 have e2:(op==CmpOp.NotIn)=false:=by cases op<;>first | rfl | exact absurd rfl h2
 cases b<;>simp[behindInMarks,e1,e2]
theorem i4 {op:CmpOp} {r:R2} (ho:fq X (compareOp op) r) (ha:PE X a ta) (hb:PE X b tb) (hm:behindInMarks op b=false):PE X (.Compare a [op] [b] pos) (Jy r ta tb):=by
 intro pins s σ H Q I h
 exact wpAny_Compare1 (Dj ha hb I h fun v u s2 x y H2 I2 rx ry q=>ho pins s2 σ H2 x y v u Q I2 rx ry q) hm
noncomputable def BU (t:TE):TT:=fun σ H Q=>t σ H fun x H'=> ∃k,x= .bl k/\Q k H'
theorem aE {op:CmpOp} {r:R2} (ho:fq X (compareOp op) r) (ha:PE X a ta) (hb:PE X b tb) (hm:behindInMarks op b=false):PT X (.Compare a [op] [b] pos) (BU (Jy r ta tb)):=by
 intro pins s σ H Q I h
 refine wpAny_isTrue_Compare1 (bU (ha pins s σ H _ I h) fun v s1 ⟨x,H1,I1,r1,q1⟩=>bU (hb pins s1 σ H1 _ I1 q1) fun u s2 ⟨y,H2,I2,r2,q2⟩=>
  bU (ho pins s2 σ H2 x y v u _ I2 r1 r2 q2) fun c s3 ⟨z,H3,I3,r3,k,e,q3⟩=>?_) hm
 subst e
 cases r3
 exact wpAny_truthy_bool ⟨H3,I3,q3⟩
noncomputable def Dl (r r':R2) (ta tb tc:TE):TE:=fun σ H Q=>ta σ H fun x H1=>tb σ H1 fun y H2=>r x y H2 fun z H3=> ∃k,z= .bl k/\
 (if k=true then tc σ H3 fun w' H4=>r' y w' H4 Q else Q (.bl false) H3)
theorem gI {op Ln:CmpOp} {r r':R2} (ho:fq X (compareOp op) r) (iC:fq X (compareOp Ln) r') (ha:PE X a ta) (hb:PE X b tb) (hc:PE X c tc)
  (hm:lastMarks [op,Ln] [b,c]=false:=by with_unfolding_all rfl):PT X (.Compare a [op,Ln] [b,c] pos) (BU (Dl r r' ta tb tc)):=by
 intro pins s σ H Q I h
 refine isTrue_chain (bU (ha pins s σ H _ I h) fun v s1 ⟨x,H1,I1,r1,q1⟩=>test_link (bU (hb pins s1 σ H1 _ I1 q1) fun u s2 ⟨y,H2,I2,r2,q2⟩=>
  bU (ho pins s2 σ H2 x y v u _ I2 r1 r2 q2) fun d s3 ⟨z,H3,I3,r3,k,e,q3⟩=>?_)) hm
 subst e
 cases r3
 refine wpAny_truthy_bool ?_
 cases k with
 | false=>
  obtain ⟨k',e',q'⟩:=q3
  cases e'
  exact ite_ff ⟨H3,I3,q'⟩
 | true=>
  refine ite_tt (test_last (bU (hc pins s3 σ H3 _ I3 q3) fun w' s4 ⟨z',H4,I4,r4,q4⟩=>bU (iC pins s4 σ H4 y z' u w' _ I4 r2 r4 q4) fun d' s5 ⟨z2,H5,I5,r5,k2,e2,q5⟩=>?_))
  subst e2
  cases r5
  exact wpAny_truthy_bool ⟨H5,I5,q5⟩
noncomputable def Lo (K:PySem.W.Frag) (x:V) (H:Hp) (k:Bool):Prop:=
 match x with
 | .bW=>k=false
 | .bl b=>k=b
 | .int i=>k=(i != 0)
 | .str y=>y.length<=sizeLine/\k=((y.length:Int) != 0)
 | .vf y=>y.size<=sizeLine/\k=((y.size:Int) != 0)
 | .ref p=>(∃xs,aT K H p xs/\k=!xs.isEmpty)\/(∃xs,aW K H p xs/\k=!xs.isEmpty)\/ ∃kvs,H p=some (.dK kvs)/\k=!kvs.isEmpty
 | _=>False
theorem rP {κ:Type} {kvs:List (κ×V)} {vs:List (κ×Value)} (r:KV kvs vs):(!vs.isEmpty)=!kvs.isEmpty:=by
 cases r<;>rfl
theorem kU {xs:List V} {ay:List Value} (r:Vals xs ay):(!ay.toArray.isEmpty)=!xs.isEmpty:=by
 cases r<;>simp
theorem fi:(sizeLine:Nat)<2 ^ 63:=by rw[sizeLine_eq];decide
theorem Dm:Lk X (fun x H Q=> ∃k,Lo X.K x H k/\Q k H):=by
 intro pins s σ H x v Q I rx h
 obtain ⟨k,e,q⟩:=h
 have hl:=fi
 have hs:sizeLine=16777216:=sizeLine_eq
 cases x with
 | bW=>
  cases rx
  have e':k=false:=e
  subst e'
  exact truthy_none ⟨H,I,q⟩
 | bl b=>
  cases rx
  have e':k=b:=e
  subst e'
  exact wpAny_truthy_bool ⟨H,I,q⟩
 | int i=>
  obtain ⟨t,rfl⟩:=rx
  have e':k=(i != 0):=e
  subst e'
  exact PySem.P.truthy_int ⟨H,I,q⟩
 | str y=>
  obtain ⟨t,rfl⟩:=rx
  obtain ⟨hy,e'⟩:y.length<=sizeLine/\k=((y.length:Int) != 0):=e
  subst e'
  exact PySem.P.truthy_str (by omega) ⟨H,I.tok _,q⟩
 | vf y=>
  obtain ⟨t,rfl⟩:=rx
  obtain ⟨hy,e'⟩:y.size<=sizeLine/\k=((y.size:Int) != 0):=e
  subst e'
  exact PySem.W.truthy_bytes (by omega) ⟨H,I.tok _,q⟩
 | ref p=>
  cases rx
  have e':(∃xs,aT X.K H p xs/\k=!xs.isEmpty)\/(∃xs,aW X.K H p xs/\k=!xs.isEmpty)\/ ∃kvs,H p=some (.dK kvs)/\k=!kvs.isEmpty:=e
  rcases e' with ⟨xs,hx,e'⟩ | ⟨xs,hx,e'⟩ | ⟨kvs,hx,e'⟩
  ·subst e'
   obtain ⟨ay,r,pl,hz⟩:=I.list hx
   have hlen:=r.length
   exact wpAny_truthy_list pl.isList (by simp only[List.size_toArray];omega) ⟨H,I.tok _,by rw[kU r];exact q⟩
  ·subst e'
   obtain ⟨ay,r,pl,hz⟩:=I.tuple hx
   have hlen:=r.length
   exact truthy_tuple pl (by simp only[List.size_toArray];omega) ⟨H,I.tok _,by rw[kU r];exact q⟩
  ·subst e'
   obtain ⟨hz,hS,vs,r,m⟩:kvs.length<=sizeLine/\(p==sysModules)=false/\ ∃vs,KV kvs vs/\s.heap.DictOf (bN X.prog X.w) p vs:=I.bh p _ hx
   have hlen:kvs.length=vs.length:=Paired.length r
   exact wpAny_truthy_dict hS m (by omega) ⟨H,I.tok _,by rw[rP r];exact q⟩
 | _=>exact (show False from e).elim
theorem rQ:fq X (binaryOp .Add) (fun x y H Q=> ∃i j,x= .str i/\y= .str j/\i.length+j.length<=sizeLine/\Q (.str (i++j)) H):=by
 intro pins s σ H x y v u Q I rx ry h
 obtain ⟨i,j,rfl,rfl,hz,q⟩:=h
 obtain ⟨t,rfl⟩:=rx
 obtain ⟨t',rfl⟩:=ry
 exact add_str (fun t' tk=>⟨.str (i++j),H,I.tok _,⟨_,rfl⟩,q⟩) hz
theorem vals1 {x:V} {us:List Value} (r:Vals [x] us): ∃u,us=[u]/\RelV x u:=by
 cases r with
 | cons r1 r2=>cases r2;exact ⟨_,rfl,r1⟩
theorem vals2 {x y:V} {us:List Value} (r:Vals [x,y] us): ∃u w',us=[u,w']/\RelV x u/\RelV y w':=by
 cases r with
 | cons r1 r2=>
  cases r2 with
  | cons r3 r4=>cases r4;exact ⟨_,_,rfl,r1,r3⟩
theorem ng (hc:X.calm=true):cV X (.builtin "max") (fun xs H Q=> ∃i j,xs=[.int i, .int j]/\Q (.int (if j>i then j else i)) H):=by
 intro pins s σ H xs us Q I r h
 obtain ⟨i,j,rfl,q⟩:=h
 obtain ⟨u,w',rfl,⟨t,rfl⟩,⟨t',rfl⟩⟩:=vals2 r
 refine max_two_ints (I.ok.hd hc) fun h' tk k=>⟨_,H,I.kept k,?_,q⟩
 by_cases hj:j>i
 ·rw[if_pos hj,if_pos hj];exact ⟨_,rfl⟩
 ·rw[if_neg hj,if_neg hj];exact ⟨_,rfl⟩
theorem vq (hc:X.calm=true):cV X (.builtin "min") (fun xs H Q=> ∃i j,xs=[.int i, .int j]/\Q (.int (if j<i then j else i)) H):=by
 intro pins s σ H xs us Q I r h
 obtain ⟨i,j,rfl,q⟩:=h
 obtain ⟨u,w',rfl,⟨t,rfl⟩,⟨t',rfl⟩⟩:=vals2 r
 refine min_two_ints (I.ok.hd hc) fun h' tk k=>⟨_,H,I.kept k,?_,q⟩
 by_cases hj:j<i
 ·rw[if_pos hj,if_pos hj];exact ⟨_,rfl⟩
 ·rw[if_neg hj,if_neg hj];exact ⟨_,rfl⟩
theorem nh:cV X (.type "int") (fun xs H Q=>(∃i,xs=[.int i]/\Q (.int i) H)\/ ∃k,xs=[.bl k]/\Q (.int (if k then 1 else 0)) H):=by
 intro pins s σ H xs us Q I r h
 rcases h with ⟨i,rfl,q⟩ | ⟨k,rfl,q⟩
 ·obtain ⟨u,rfl,t,rfl⟩:=vals1 r
  exact call_int_int ⟨.int i,H,I,⟨_,rfl⟩,q⟩
 ·obtain ⟨u,rfl,r1⟩:=vals1 r
  cases r1
  exact call_int_bool ⟨.int (if k then 1 else 0),H,I.tok _,⟨_,rfl⟩,q⟩
end
end L2
namespace L2
open PySem PySem.Spec PyProof.Rows
structure UB (h:Heap) (x dx C:Addr) (mA:Str->Option Value):Prop where
 obj:h.get? x=some (PySem.W.instObj C dx)
 ns:h.Ns1 dx mA
 ne:dx≠x
section
variable {prog:Program} {w:World} {A:Around} {E:Value->Shared->Prop} {s:Shared} {K:PySem.W.Frag} {x dx C f:Addr} {mA:Str->Option Value} {name:Str} {v:Value}
end
theorem mL.some_of {v:V} {o:Option Value} (r:mL (some v) o): ∃u,o=some u/\RelV v u:=by
 cases o with
 | none=>exact (show False from r).elim
 | some u=>exact ⟨u,rfl,r⟩
section
variable {P:Program} {w:World} {H H':Hp} {h h':Heap} {a C dx:Addr} {fs Uq:List (Str×V)}
end
structure UC (K:PySem.W.Frag) (C:Addr):Prop where
 pg:PySem.W.plainGet K C Str.empty=true
 hd:PySem.W.hasDictIn K C=true
 po:PySem.W.plainOver K C=true
 sa:PySem.W.findIn K (.ref C) "__setattr__"=some (some (.builtin "object.__setattr__"))
structure YC (K:PySem.W.Frag) (C:Addr) (f:Str) (v:V) (u:Value):Prop where
 at_:PySem.W.findIn K (.ref C) f=some (some u)
 rel:RelV v u
 get:PySem.W.specialIn K u "__get__"=some none
 cp:PySem.W.copiedNames.contains f=false
structure Meth (K:PySem.W.Frag) (C:Addr) (m:Str) (f:Addr):Prop where
 at_:PySem.W.findIn K (.ref C) m=some (some (.ref f))
 fn:PySem.W.isFn K (.ref f)=true
 kp:PySem.W.keepIn K (.ref f)=true
section
variable {X:Cx} {pins:List (Addr×Obj)} {σ:St} {H:Hp} {s:Shared} {a C dx:Addr} {fs:List (Str×V)} {f:Str} {v:V} {A:Around} {E:Value->Shared->Prop}
end
section
variable {X:Cx} {o e value:Expr} {f:Str} {pos pos' Lp:Pos} {ta tv:TE}
end
section
variable {X:Cx} {pins:List (Addr×Obj)} {σ:St} {H:Hp} {s:Shared} {A:Around} {E:Value->Shared->Prop} {Q:Value->Shared->Prop} {c:Value} {b:Bool}
inductive kW (K:PySem.W.Frag) (H:Hp):V->Value->Prop where
 | bW:kW K H .bW (.type "NoneType")
 | bl (x:Bool):kW K H (.bl x) (.type "bool")
 | int (i:Int):kW K H (.int i) (.type "int")
 | str (x:Str):kW K H (.str x) (.type "str")
 | FV (x:UInt64):kW K H (.FV x) (.type "float")
 | lst {a:Addr} {xs:List V} (e:H a=some (.lst xs)):kW K H (.ref a) (.type "list")
 | xm {a:Addr} {o:Obj} {xs:List V} (e:H a=some (.xm o (.lst xs))):kW K H (.ref a) (.type "list")
 | tup {a:Addr} {xs:List V} (e:H a=some (.tup xs)):kW K H (.ref a) (.type "tuple")
 | dK {a:Addr} {kvs:List (Key×V)} (e:H a=some (.dK kvs)):kW K H (.ref a) (.type "dict")
 | dT {a:Addr} {kvs:List (List Key×V)} (e:H a=some (.dT kvs)):kW K H (.ref a) (.type "dict")
 | ins {a C dx:Addr} {fs:List (Str×V)} (e:H a=some (.ins C dx fs)) (cl:UC K C) (ha:PySem.W.findIn K (.ref C) "__class__"=some (some (.builtin "object.__class__")))
   (hn:PySem.W.specialIn K (.builtin "object.__class__") "__get__"=some (some (.builtin "getset_descriptor.__get__"))) (vt:PySem.W.takesIn K (.builtin "object.__class__")=some true)
   (hm:PySem.W.mroIn K C (.type "object")=some true):kW K H (.ref a) (.ref C)
end
end L2
namespace L2
open PySem PySem.Spec PyProof.Rows
structure fj (k:Nat) (A:Around):Prop where
 hd:A.handled=none
 dp:A.depth+3*k+5<recursionLimit
 un:A.units+16*k+200<cLine
 gd:A.guards=some []
theorem fj.mono {j k:Nat} {A:Around} (r:fj k A) (h:j<=k):fj j A:=⟨r.hd,by have:=r.dp;omega,by have:=r.un;omega,r.gd⟩
theorem fj.deeper {k:Nat} {A:Around} (r:fj (k+1) A) (env:Env):fj k (A.deeper env):=
 ⟨r.hd,by have:=r.dp;show A.depth+1+3*k+5<_;omega,by have:=r.un;show A.units+3+16*k+200<_;omega,r.gd⟩
theorem fj.depth {k:Nat} {A:Around} (r:fj k A):A.depth<recursionLimit:=by have:=r.dp;omega
theorem fj.units {k:Nat} {A:Around} (r:fj k A):A.units+64<cLine:=by have:=r.un;omega
noncomputable def Lq:TA:=fun _ H Q=>Q [] H
noncomputable def Gw (ta:TE) (tr:TA):TA:=fun σ H Q=>ta σ H fun x H1=>tr σ H1 fun xs H2=>Q (x::xs) H2
section
variable {X:Cx} {e:Expr} {es:List Expr} {te:TE} {t:TA} {pos:Pos}
theorem ab:PA X [] Lq:=fun _ _ _ _ H Q I h=>Calls.spliced_nil ⟨[],H,I, .nil,h⟩
theorem aa (ha:PE X e te) (hr:PA X es t) (hs:starEach (e::es) X.env=(false,eval e X.env)::starEach es X.env:=by rfl):PA X (e::es) (Gw te t):=by
 intro pos pins s σ H Q I h
 rw[hs]
 show wpAny _ _ (spliced ((false,eval e X.env)::backTo pos (starEach es X.env))) _ _ s
 refine Calls.spliced_cons (bU (ha pins s σ H _ I h) fun u s1 ⟨x,H1,I1,r1,q1⟩=>?_)
 exact bU (hr pos pins s1 σ H1 _ I1 q1) fun us s2 ⟨xs,H2,I2,r2,q2⟩=>⟨x::xs,H2,I2, .cons r1 r2,q2⟩
noncomputable def Lr (t:TA):TE:=fun σ H Q=>t σ H fun xs H1=>xs.length<=sizeLine/\ ∀p,H1 p=none->Q (.ref p) (upd H1 p (.tup xs))
noncomputable def Ls (t:TA):TE:=fun σ H Q=>t σ H fun xs H1=>xs.length<=sizeLine/\ ∀p,H1 p=none->Q (.ref p) (upd H1 p (.lst xs))
theorem bI {x1} (h:PA X es t):PE X (.Tuple es x1 pos) (Lr t):=by
 intro pins s σ H Q I hq
 refine wpAny_Tuple_spliced (bU (h pos pins s σ H _ I hq) fun us s1 ⟨xs,H1,I1,r,z,q⟩=>⟨by rw[<-r.length];exact z,?_⟩)
 have hf:H1 s1.heap.objs.size=none:=I1.bh.fresh (Nat.le_refl _)
 refine ⟨.ref s1.heap.objs.size,upd H1 s1.heap.objs.size (.tup xs),I1.laid (t':=s1.toks) (fun b u e=>Heap.get?_push_of_some _ e) (Nat.le_refl _) ?_,rfl,q _ hf⟩
 exact ⟨z,us,r,⟨_,Heap.get?_push_size _ rfl,rfl,_,rfl⟩⟩
theorem bp (h:PA X es t):PE X (.List es pos) (Ls t):=by
 intro pins s σ H Q I hq
 refine wpAny_List_spliced (bU (h pos pins s σ H _ I hq) fun us s1 ⟨xs,H1,I1,r,z,q⟩=>⟨by rw[<-r.length];exact z,?_⟩)
 have hf:H1 s1.heap.objs.size=none:=I1.bh.fresh (Nat.le_refl _)
 refine ⟨.ref s1.heap.objs.size,upd H1 s1.heap.objs.size (.lst xs),I1.laid (t':=s1.toks) (fun b u e=>Heap.get?_push_of_some _ e) (Nat.le_refl _) ?_,rfl,q _ hf⟩
 exact ⟨z,us,0,r,Heap.get?_push_size _ rfl⟩
end
noncomputable abbrev Sp:=List V->Hp->VK->XK->Prop
noncomputable abbrev xK:=List Env->Hp->Shared->XK->Value->Shared->Prop
structure An (P:Program) (w:World) (K:PySem.W.Frag) (mg:Str->Option Value) (base:Heap) (A:Around) (outer:List Env) (s:Shared) (H:Hp):Prop where
 frames:A.frames=some outer
 mod:Mod K mg base
 bs: ∀b o,base.get? b=some o->s.heap.get? b=some o/\H b=none
 BJ:base.objs.size<=s.heap.objs.size
 kK:s.heap.FunFrames base outer
 Fq: ∀b∈tZ outer,H b=none
 bh:iU P w H s.heap
 bare:AllBare s.gens
noncomputable def CE (outer:List Env) (P:Program) (w:World) (H:Hp) (s:Shared) (Q:VK) (u:Value) (s':Shared):Prop:=
 ∃v H',s'.os=s.os/\AllBare s'.gens/\Un (tZ outer) [] H H' s.heap s'.heap/\iU P w H' s'.heap/\RelV v u/\Q v H'
noncomputable def CR (CX:xK) (outer:List Env) (P:Program) (w:World) (H:Hp) (s:Shared) (Q:VK) (E:XK) (r:Result) (s':Shared):Prop:=
 match r with
 | .ok (.ret u)=>CE outer P w H s Q u s'
 | .ok _=>False
 | .error e=>CX outer H s E e s'
structure bQ (P:Program) (w:World) (K:PySem.W.Frag) (mg:Str->Option Value) (base:Heap) (CX:xK) (k:Nat) (f:Addr) (fd:FuncData) (ps:List Str) (sp:Sp):Prop where
 len: ∀vs H Q E,sp vs H Q E->vs.length=ps.length
 run: ∀(A:Around) (outer:List Env) (s:Shared) (H:Hp) (args:Args) (us:List Value) (vs:List V) (Q:VK) (E:XK),fj k A->An P w K mg base A outer s H->BindsTo s fd args (ps.zip us)->Vals vs us->sp vs H Q E->
  codeAny (model P w) A (.call (.ref f) args) (CR CX outer P w H s Q E) s
section
variable {X:Cx} {pins:List (Addr×Obj)} {σ:St} {H:Hp} {s s':Shared}
theorem Inv.Lu (I:Inv X pins σ H s):An X.prog X.w X.K X.mg X.base X.A X.stack s H:=
 ⟨I.ok.frames,I.ok.mod,I.bs,Nat.le_trans I.ok.BJ I.sz,I.stack,I.t5,I.bh,I.bare⟩
theorem Inv.after {Q:VK} {u:Value} (I:Inv X pins σ H s) (h:CE X.stack X.prog X.w H s Q u s'):EP X pins σ Q u s':=by
 obtain ⟨v,H',os,bare,un,bh,r,q⟩:=h
 obtain ⟨hh,g,d,t,os'⟩:=s'
 obtain rfl:os'=s.os:=os
 exact ⟨v,H',I.call (h':=hh) (g':=g) (d':=d) (t':=t) (ch:=[]) un bh bare (fun b z=>absurd z (by simp)),r,q⟩
end
noncomputable def Gx (sp:Sp) (BV:List V) (E:XK) (t:TA):TE:=fun σ H Q=>t σ H fun vs H1=>sp (vs++BV) H1 Q E
noncomputable def Binds (K:PySem.W.Frag) (fd:FuncData) (ps:List Str) (ds:List Value):Prop:=
 ∀(s:Shared) (us:List Value),K.In s.heap->(us++ds).length=ps.length->BindsTo s fd ⟨us,[]⟩ (ps.zip (us++ds))
theorem Binds.all {K:PySem.W.Frag} {fd:FuncData} {ps:List Str} (h: ∀us:List Value,us.length=ps.length->bindArgs fd ⟨us,[]⟩=pure (ps.zip us)):Binds K fd ps []:=fun s us _ hl=>by
 rw[List.append_nil]at hl ⊢
 exact .of_eq (h us hl)
noncomputable def Passes (CX:xK) (X:Cx) (E:XK):Prop:= ∀(pins:List (Addr×Obj)) (σ:St) (H:Hp) (s:Shared) (e:Value) (s':Shared),Inv X pins σ H s->CX X.stack H s E e s'->X.xe e s'
section
variable {X:Cx} {CX:xK} {k:Nat} {f C:Addr} {fd:FuncData} {ps:List Str} {sp:Sp} {BV:List V} {ds:List Value} {E:XK} {x m:Str} {p pos apos:Pos} {e o:Expr} {es:List Expr} {ta:TE} {t:TA}
theorem Dn {pins:List (Addr×Obj)} {σ:St} {H:Hp} {s:Shared} {Q:VK} {us:List Value} {vs:List V} (F:bQ X.prog X.w X.K X.mg X.base CX k f fd ps sp) (hr:fj k X.A) (hb:Binds X.K fd ps ds) (hd:Vals BV ds) (hx:Passes CX X E)
  (I:Inv X pins σ H s) (r:Vals vs us) (h:sp (vs++BV) H Q E):wpAny (model X.prog X.w) X.A (call (.ref f) us) (EP X pins σ Q) X.xe s:=by
 have r2:Vals (vs++BV) (us++ds):=r.append hd
 have hl:(us++ds).length=ps.length:=by rw[<-r2.length];exact F.len _ _ _ _ h
 refine wpAny_call (codeAny_mono (F.run X.A X.stack s H ⟨us,[]⟩ (us++ds) (vs++BV) Q E hr I.Lu (hb s us I.Fs hl) r2 h) fun r s' hq=>?_)
 cases r with
 | error e=>exact hx pins σ H s e s' I hq
 | ok fl=>
  cases fl with
  | ret u=>exact I.after hq
  | next=>exact False.elim hq
  | brk=>exact False.elim hq
  | cont=>exact False.elim hq
theorem ao (F:bQ X.prog X.w X.K X.mg X.base CX k f fd ps sp) (hr:fj k X.A) (hg:Gl X x) (hm:X.mg x=some (.ref f)) (hk:PySem.W.keepIn X.K (.ref f)=true) (hb:Binds X.K fd ps ds) (hd:Vals BV ds) (hx:Passes CX X E)
  (ha:PA X (e::es) t) (Gy:(x==("__debug__":Str))=false:=by decide) (he:starEach (e::es) X.env=(false,eval e X.env)::starEach es X.env:=by rfl) (ig:(backTo pos (starEach es X.env)).any (·.1)=false:=by rfl):
  PE X (.Call (.Name x p) (e::es) [] pos) (Gx sp BV E t):=by
 intro pins s σ H Q I h
 refine wpAny_Call_Name_kw (Ai I hg hm ?_ Gy)
 refine PySem.W.callWith_K (h₀:=X.base) I.ok.mod.KU hk (bU (ha pos pins s σ H _ I h) fun us s1 ⟨vs,H1,I1,r,q⟩=>⟨I1.Fs,?_⟩) he ig
 exact Dn F hr hb hd hx I1 r q
structure Mk (K:PySem.W.Frag) (C f:Addr):Prop where
 makes:PySem.W.makesIn K C=true
 init:PySem.W.findIn K (.ref C) "__init__"=some (some (.ref f))
 fn:PySem.W.isFn K (.ref f)=true
 kp:PySem.W.keepIn K (.ref C)=true
end
section
variable {X:Cx} {CX:xK} {k:Nat} {f C:Addr} {fd:FuncData} {ps ks:List Str} {sp:Sp} {E:XK} {x m:Str} {p pos apos UD:Pos} {e o:Expr} {es:List Expr} {YD:List Keyword} {te ta:TE} {t tk:TA} {nm:Option Str}
structure Lv (K:PySem.W.Frag) (fd:FuncData) (ps ks:List Str) (g:List Value->List Value->List Value) (gV:List V->List V->List V):Prop where
 to: ∀(s:Shared) (us ws:List Value),K.In s.heap->(g us ws).length=ps.length->BindsTo s fd ⟨us,ks.zip ws⟩ (ps.zip (g us ws))
 rel: ∀{vs:List V} {us:List Value} {zs:List V} {ws:List Value},Vals vs us->Vals zs ws->Vals (gV vs zs) (g us ws)
variable {g:List Value->List Value->List Value} {gV:List V->List V->List V}
end
structure aL (N P:List Str) (sc:Scope):Prop where
 kind:sc.kind= .function
 co:sc.isCoroutine=false
 gen:sc.isGenerator=false
 nd:N.Nodup
 pre:N.take P.length=P
 par: ∀x∈P,sc.names.lookup x=some .local\/sc.names.lookup x=some .cell
 Dp: ∀y∈sc.names,y.2≠ .free
theorem ni {kindOf:Str->Option NameKind} {x:Str}: ∀{binds:List (Str×Value)} {m:Str->Option Value},(∀v,(x,v)∉binds)->bindL kindOf binds m x=m x
 | [],_,_=>rfl
 |(n,v)::r,m,h=>by
  unfold bindL
  rw[ni fun w hw=>h w (List.mem_cons_of_mem _ hw)]
  split
  ·have:x≠n:=by rintro rfl;exact h v List.mem_cons_self
   simp[this]
  ·rfl
theorem nj {kindOf:Str->Option NameKind} {x:Str}: ∀{binds:List (Str×Value)} {m:Str->Option Value},(∀v,(x,v)∉binds)->bindC kindOf binds m x=m x
 | [],_,_=>rfl
 |(n,v)::r,m,h=>by
  unfold bindC
  rw[nj fun w hw=>h w (List.mem_cons_of_mem _ hw)]
  split
  ·rfl
  ·have:x≠n:=by rintro rfl;exact h v List.mem_cons_self
   simp[this]
theorem nk {kindOf:Str->Option NameKind} {x:Str} {v:Value}: ∀{P:List Str} {vs:List Value} {i:Nat} {m:Str->Option Value},P.Nodup->P[i]? =some x->vs[i]? =some v->kindOf x=some .local->
  bindL kindOf (P.zip vs) m x=some v
 | [],_,_,_,_,h,_,_=>by simp at h
 | _::_,[],_,_,_,_,h,_=>by simp at h
 | p::P,w::vs,0,m,nd,h1,h2,hk=>by
  simp at h1 h2;subst h1;subst h2
  show bindL kindOf ((p,w)::P.zip vs) m p=_
  unfold bindL
  rw[ni fun v hv=>(List.nodup_cons.mp nd).1 (List.of_mem_zip hv).1,if_pos hk]
  simp
 | p::P,w::vs,i+1,m,nd,h1,h2,hk=>by
  show bindL kindOf ((p,w)::P.zip vs) m x=_
  unfold bindL
  exact nk (i:=i) (List.nodup_cons.mp nd).2 (by simpa using h1) (by simpa using h2) hk
theorem nu {kindOf:Str->Option NameKind} {x:Str} {v:Value}: ∀{P:List Str} {vs:List Value} {i:Nat} {m:Str->Option Value},P.Nodup->P[i]? =some x->vs[i]? =some v->kindOf x≠some .local->
  bindC kindOf (P.zip vs) m x=some v
 | [],_,_,_,_,h,_,_=>by simp at h
 | _::_,[],_,_,_,_,h,_=>by simp at h
 | p::P,w::vs,0,m,nd,h1,h2,hk=>by
  simp at h1 h2;subst h1;subst h2
  show bindC kindOf ((p,w)::P.zip vs) m p=_
  unfold bindC
  rw[nj fun v hv=>(List.nodup_cons.mp nd).1 (List.of_mem_zip hv).1,if_neg hk]
  simp
 | p::P,w::vs,i+1,m,nd,h1,h2,hk=>by
  show bindC kindOf ((p,w)::P.zip vs) m x=_
  unfold bindC
  exact nu (i:=i) (List.nodup_cons.mp nd).2 (by simpa using h1) (by simpa using h2) hk
noncomputable def start (N:List Str) (vs:List V):St:=vs.map some++List.replicate (N.length - vs.length) none
noncomputable def vv (CX:xK) (P:Program) (w:World) (K:PySem.W.Frag) (mg:Str->Option Value) (base:Heap) (N:List Str) (qual:Str) (scope:Scope) (f:Addr) (cd:Value) (A:Around) (outer:List Env) (s:Shared) (H:Hp) (E:XK):Cx where
 prog:=P
 w:=w
 K:=K
 mg:=mg
 base:=base
 A:=A.deeper (envOfC qual scope s.heap.objs.size f cd)
 N:=N
 s₀:=s
 H₀:=H
 env:=envOfC qual scope s.heap.objs.size f cd
 outer:=outer
 stack:=envOfC qual scope s.heap.objs.size f cd::outer
 ex:=[]
 calm:=true
 fn:=fun _=>true
 pn:=[]
 xe:=fun e s'=>wpAny (model P w) (A.deeper (envOfC qual scope s.heap.objs.size f cd)) (leaving (envOfC qual scope s.heap.objs.size f cd) e) (fun _ Gz=>CX outer H s E e Gz) (fun e' Gz=>CX outer H s E e' Gz) s'
theorem p9 {sc:Scope} {n:Nat} {x:Str} (h:sc.names.lookup x=some .cell): ∃c,(cellsFrom n sc.names []).lookup x=some c:=by
 have q:=PySem.W.cellsFrom_some sc.names n [] (.inl h)
 exact Option.isSome_iff_exists.mp q
theorem vw {CX:xK} {P:Program} {w:World} {K:PySem.W.Frag} {mg:Str->Option Value} {base:Heap} {N ps:List Str} {qual:Str} {scope:Scope} {f:Addr} {cd:Value} {A:Around} {outer:List Env} {s s1:Shared} {H:Hp} {E:XK} {us:List Value} {vs:List V}
  (S:aL N ps scope) (hd:A.handled=none) (e0:An P w K mg base A outer s H) (hl:vs.length=ps.length) (r:Vals vs us)
  (x:InCallC s s.heap.objs.size (bindL (envOfC qual scope s.heap.objs.size f cd).kindOf (ps.zip us) fun _=>none) (cellsFrom (s.heap.objs.size+1) scope.names []) (bindC (envOfC qual scope s.heap.objs.size f cd).kindOf (ps.zip us) fun _=>none) s1):
  Inv (vv CX P w K mg base N qual scope f cd A outer s H E) [] (start N vs) H s1:=by
 have ig:ps.length<=N.length:=by have:=congrArg List.length S.pre;rw[List.length_take]at this;omega
 obtain ⟨h1,tk,rfl,hk⟩:=x.done
 have GA: ∀b:Addr,b∉(vv CX P w K mg base N qual scope f cd A outer s H E).ex:=fun b z=>absurd (show b∈([]:List Addr) from z) (by simp)
 refine ⟨⟨e0.mod,S.kind,rfl,rfl,Nat.le_refl _,fun y z c h1 h2=>?_,fun y hy=>?_,fun y c _ h=>?_,fun _=>hd,Around.frames_deeper e0.frames, .inr ⟨rfl,rfl⟩,fun b z=>absurd z (GA b),e0.bs,e0.BJ,fun b _ _=>GA b,fun b z=>absurd z (GA b),e0.kK,e0.Fq⟩,
  rfl,e0.bare,Un.kept hk,⟨_,x.toInCall.ns,fun i y v h1 h2 h3=>?_⟩,fun y c h=>⟨_,x.cell y c h⟩,e0.bh.fresh (Nat.le_refl _),fun y c h=>?_,fun p hp=>absurd (show p∈([]:List (Addr×Obj)) from hp) (by simp),e0.bh.kept hk,?_⟩
 ·exact name_of_addr x.apart (PySem.mem_of_lookup h1) (PySem.mem_of_lookup h2)
 ·have hy:scope.names.lookup y=some .cell\/scope.names.lookup y=some .free:=hy
  rcases hy with hy | hy
  ·exact p9 hy
  ·exact absurd rfl (S.Dp _ (PySem.mem_of_lookup hy))
 ·exact Nat.le_of_lt (x.above y c (PySem.mem_of_lookup h))
 ·have hi:i<vs.length:=by
   unfold start at h2
   by_cases hi:i<vs.length
   ·exact hi
   ·rw[List.getElem?_append_right (by simpa using hi)]at h2
    rw[List.getElem?_replicate]at h2
    split at h2<;>cases h2
  have ha:vs[i]? =some v:=by
   unfold start at h2
   rw[List.getElem?_append_left (by simpa using hi),List.getElem?_map]at h2
   cases e:vs[i]? with
   | none=>rw[e]at h2;cases h2
   | some a=>rw[e]at h2;cases h2;rfl
  obtain ⟨u,hu,rv⟩:=r.get ha
  have hp:ps[i]? =some y:=by
   rw[<-S.pre,List.getElem?_take_of_lt (by omega)];exact h1
  have R4:ps.Nodup:=by rw[<-S.pre];exact S.nd.sublist (List.take_sublist _ _)
  refine ⟨u,rv,?_⟩
  rcases S.par y (List.mem_of_getElem? hp) with k | k
  ·exact .inl ⟨k,nk R4 hp hu k⟩
  ·obtain ⟨c,e⟩:=p9 (n:=s.heap.objs.size+1) k
   refine .inr ⟨.inl k,c,e,?_⟩
   have q:=x.cell y c e
   rw[nu R4 hp hu (by show scope.names.lookup y≠_;rw[k];decide)]at q
   exact q
 ·exact e0.bh.fresh (Nat.le_of_lt (x.above y c (PySem.mem_of_lookup h)))
 ·unfold start
  show _=N.length
  rw[List.length_append,List.length_map,List.length_replicate]
  omega
theorem GB {CX:xK} {P:Program} {w:World} {K:PySem.W.Frag} {mg:Str->Option Value} {base:Heap} {k:Nat} {f:Addr} {name qual:Str} {params:Arguments} {body:List Stmt} {scope:Scope} {dV kV doc pm cS ct oc:Value} {an od:Option Addr}
  {BW:Array (Option Value)} {N ps:List Str} {sp:Sp} (lk:K.lookup f=some ⟨oc,od, .func (PySem.W.fnOf name qual params body scope dV kV doc pm an cS ct),BW⟩) (pZ:PySem.W.codeIn K cS qual=true) (S:aL N ps scope)
  (len: ∀vs H Q E,sp vs H Q E->vs.length=ps.length)
  (xM: ∀(A:Around) (outer:List Env) (s:Shared) (H:Hp) (vs:List V) (Q:VK) (E:XK),fj k (A.deeper (envOfC qual scope s.heap.objs.size f cS))->sp vs H Q E->
   ∃t,vk (vv CX P w K mg base N qual scope f cS A outer s H E) body t/\t { nx:=fun _ H'=>Q .bW H',rt:=Q } (start N vs) H):
  bQ P w K mg base CX (k+1) f (PySem.W.fnOf name qual params body scope dV kV doc pm an cS ct) ps sp:=by
 refine ⟨len,fun A outer s H args us vs Q E hr e0 hb r rE=>?_⟩
 have hl:=len _ _ _ _ rE
 have KX:K.In s.heap:=e0.mod.KU.keeps fun b o e=>(e0.bs b o e).1
 have lim:s.heap.NoLimit:=e0.mod.nolimit.keeps fun b o e=>(e0.bs b o e).1
 have gj: ∀y∈ps.zip us,scope.names.lookup y.1=some .local\/(scope.names.lookup y.1=some .cell/\((cellsFrom (s.heap.objs.size+1) scope.names []).lookup y.1).isSome=true):=fun ⟨n,v⟩ hy=>by
  rcases S.par n (List.of_mem_zip hy).1 with q | q
  ·exact .inl q
  ·exact .inr ⟨q,PySem.W.cellsFrom_some _ _ _ (.inl q)⟩
 refine codeAny_call_function hr.depth (KX _ _ lk) rfl S.co S.gen rfl (PySem.W.codeRec_of KX pZ) (hb _ _ _ _ ?_)
 refine wpAny_newFunctionEnv_cells S.kind gj fun env he s1 x=>?_
 subst he
 refine ⟨lim.keeps x.toInCall.keep,codeAny_func ?_⟩
 obtain ⟨t,ht,hq⟩:=xM A outer s H vs Q E (hr.deeper _) rE
 have I:Inv (vv CX P w K mg base N qual scope f cS A outer s H E) [] (start N vs) H s1:=vw S hr.hd e0 hl r x
 refine wpAny_mono (ht [] s1 (start N vs) H _ I hq) (fun fl s' hs=>?_) fun e s' hs=>hs
 have fin: ∀{σ':St} {H':Hp} {v:V} {u:Value},Inv (vv CX P w K mg base N qual scope f cS A outer s H E) [] σ' H' s'->RelV v u->Q v H'->CE outer P w H s Q u s':=
  fun {σ' H' v u} J rv q=>⟨v,H',J.os,J.bare,J.base,J.bh,rv,q⟩
 cases fl with
 | ret u=>
  obtain ⟨v,σ',H',J,rv,q⟩:=hs
  exact fin J rv q
 | next=>
  obtain ⟨σ',H',J,q⟩:=hs
  exact fin (v:=V.bW) (u:=Value.none) J rfl q
 | brk=>
  obtain ⟨_,_,_,q⟩:=hs
  exact False.elim q
 | cont=>
  obtain ⟨_,_,_,q⟩:=hs
  exact False.elim q
end L2
namespace L2
open PySem PySem.Spec PyProof.Rows
section
variable {X:Cx} {x:Str} {p pos:Pos} {e:Expr} {es:List Expr} {t:TA} {id T:String} {r:List V->Hp->VK->Prop}
noncomputable def R5 (r:List V->Hp->VK->Prop) (t:TA):TE:=fun σ H Q=>t σ H fun vs H1=>r vs H1 Q
theorem ar (hc:cV X (.builtin id) r) (hg:Gl X x) (hm:X.mg x=none) (hv:bootBuiltins x=some (.builtin id)) (ha:PA X (e::es) t) (hn:x≠"__name__":=by decide) (Gy:(x==("__debug__":Str))=false:=by decide)
  (he:starEach (e::es) X.env=(false,eval e X.env)::starEach es X.env:=by rfl) (ig:(backTo pos (starEach es X.env)).any (·.1)=false:=by rfl):PE X (.Call (.Name x p) (e::es) [] pos) (R5 r t):=by
 intro pins s σ H Q I h
 refine wpAny_Call_Name_kw (cJ I hg hm hv ?_ hn Gy)
 exact PyProof.Rows.callWith_builtin1 (bU (ha pos pins s σ H _ I h) fun us s1 ⟨vs,H1,I1,r1,q1⟩=>hc pins s1 σ H1 vs us Q I1 r1 q1) he ig
theorem bj (hc:cV X (.type T) r) (hg:Gl X x) (hm:X.mg x=none) (hv:bootBuiltins x=some (.type T)) (ha:PA X (e::es) t) (hn:x≠"__name__":=by decide) (Gy:(x==("__debug__":Str))=false:=by decide)
  (he:starEach (e::es) X.env=(false,eval e X.env)::starEach es X.env:=by rfl) (ig:(backTo pos (starEach es X.env)).any (·.1)=false:=by rfl):PE X (.Call (.Name x p) (e::es) [] pos) (R5 r t):=by
 intro pins s σ H Q I h
 refine wpAny_Call_Name_kw (cJ I hg hm hv ?_ hn Gy)
 exact PyProof.Rows.callWith_type1 (bU (ha pos pins s σ H _ I h) fun us s1 ⟨vs,H1,I1,r1,q1⟩=>hc pins s1 σ H1 vs us Q I1 r1 q1) he ig
end
end L2
namespace HT
open PySem PyProof.Rows
section
open PySem.SeqAt
open PySem.AutoSeq1 (wpAny_loadPart')
open PySem.MeetsSeq PySem.MeetsSeq2 PySem.MeetsSeq3
end
section
variable {prog:Program} {w:World} {A:Around} {E:Value->Shared->Prop} {s:Shared}
theorem Ao {t b:Addr} {vs ws:List Value} {Q:Value->Shared->Prop} (ht:IsTup s.heap t vs.toArray) (hb:IsTup s.heap b ws.toArray) (hv:vs≠[])
  (h1:ws=[]->Q (.ref t) s) (h2:ws≠[]->Q (.ref s.heap.objs.size) { s with heap:=s.heap.push { cls:= .type "tuple",data:= .seq (vs++ws).toArray } })
  (hsz:vs.length+ws.length<=sizeLine):wpAny (model prog w) A (binaryOp .Add (.ref t) (.ref b)) Q E s:=by
 obtain ⟨⟨cls,dd,data,sl⟩,ho,hc,n,hd⟩:=id ht
 obtain ⟨⟨UE,R6,data2,JA⟩,Dq,mH,n2,hd2⟩:=id hb
 simp only at hc hd mH hd2
 subst hc hd mH hd2
 have e:vs.toArray++ws.toArray=(vs++ws).toArray:=by simp
 by_cases hw:ws=[]
 ·exact concat_meets ⟨_,ho,rfl⟩ ⟨_,Dq,rfl⟩ noFill_tuple_add seq_tuple_add PySem.F.slot_tuple_add PySem.F.entry_tuple_add (PySem.F.args_tuple_add_2 _ _)
   (tuple_addW1 t b vs.toArray ws.toArray n n2 dd R6 sl JA (by simpa using hv) (by simp[hw])) ⟨ho,Dq,h1 hw⟩
 ·refine concat_meets ⟨_,ho,rfl⟩ ⟨_,Dq,rfl⟩ noFill_tuple_add seq_tuple_add PySem.F.slot_tuple_add PySem.F.entry_tuple_add (PySem.F.args_tuple_add_2 _ _)
   (tuple_addW2 t b vs.toArray ws.toArray n n2 dd R6 sl JA (by simpa using hv) (by simpa using hw) (by rw[List.size_toArray,List.size_toArray];exact hsz)) ⟨ho,Dq,?_⟩
  rw[e]
  exact h2 hw
noncomputable def rR (n d:Nat):Option Int->Nat
 | none=>d
 | some v=>if v<0 then (v+(n:Int)).toNat else min v.toNat n
theorem p_ (n d:Nat):rR n d none=d:=rfl
theorem kE (n d k:Nat):rR n d (some (k:Int))=min k n:=by
 show (if (k:Int)<0 then ((k:Int)+(n:Int)).toNat else min (k:Int).toNat n)=min k n
 rw[if_neg (by omega),Int.toNat_natCast]
theorem Dr (n d:Nat) (hd:d<=n) (o:Option Int):rR n d o<=n:=by
 cases o with
 | none=>exact hd
 | some v=>
  show (if v<0 then (v+(n:Int)).toNat else min v.toNat n)<=n
  by_cases hv:v<0
  ·rw[if_pos hv];omega
  ·rw[if_neg hv];exact Nat.min_le_right _ _
end
end HT
namespace L2
open PySem PySem.Spec PyProof.Rows
noncomputable abbrev TO:=St->Hp->(Option Int->Hp->Prop)->Prop
noncomputable def PO (X:Cx) (e:Option Expr) (t:TO):Prop:=
 ∀(pins:List (Addr×Obj)) (s:Shared) (σ:St) (H:Hp) (Q:Option Int->Hp->Prop),Inv X pins σ H s->t σ H Q->
  wpAny (model X.prog X.w) X.A (evalPart e X.env) (fun u s'=> ∃o H',Inv X pins σ H' s'/\IsPart u o/\Q o H') X.xe s
noncomputable def Ap:TO:=fun _ H Q=>Q none H
noncomputable def GC (t:TE):TO:=fun σ H Q=>t σ H fun x H1=> ∃i,x= .int i/\Q (some i) H1
section
variable {X:Cx} {e:Expr} {te:TE} {lo hi:Option Expr} {tl th:TO} {pos p2:Pos}
theorem cC:PO X none Ap:=by
 intro pins s σ H Q I h
 rw[evalPart_none]
 exact wpAny_pure ⟨none,H,I, .none,h⟩
theorem ck (h:PE X e te):PO X (some e) (GC te):=by
 intro pins s σ H Q I hw
 rw[evalPart_some]
 refine bU (h pins s σ H _ I hw) fun u s1 ⟨x,H1,I1,r1,q1⟩=>?_
 obtain ⟨i,rfl,q⟩:=q1
 obtain ⟨t,rfl⟩:=r1
 exact ⟨some i,H1,I1, .int i t,q⟩
noncomputable def R7 (X:Cx) (r:V->Option Int->Option Int->Hp->VK->Prop):Prop:=
 ∀(pins:List (Addr×Obj)) (s:Shared) (σ:St) (H:Hp) (x:V) (v vl vu:Value) (lo hi:Option Int) (sl:Addr) (Q:VK),Inv X pins σ H s->RelV x v->s.heap.IsSliceOf sl vl vu .none->IsPart vl lo->IsPart vu hi->r x lo hi H Q->
  ∃T id,typeLookup (.type T) "__getitem__"=pure (some (.builtin id))/\s.TypeIs v T/\wpAny (model X.prog X.w) X.A (getItem v (.ref sl)) (EP X pins σ Q) X.xe s
noncomputable def UG (r:V->Option Int->Option Int->Hp->VK->Prop) (te:TE) (tl th:TO):TE:=fun σ H Q=>te σ H fun x H1=>tl σ H1 fun l H2=>th σ H2 fun u H3=>r x l u H3 Q
theorem bT {r:V->Option Int->Option Int->Hp->VK->Prop} (hr:R7 X r) (he:PE X e te) (hl:PO X lo tl) (hu:PO X hi th):PE X (.Subscript e (.Slice lo hi none p2) pos) (UG r te tl th):=by
 intro pins s σ H Q I h
 refine Subscript_ (bU (he pins s σ H _ I h) fun v s1 ⟨x,H1,I1,r1,q1⟩=>?_)
 refine wpAny_Slice (bU (hl pins s1 σ H1 _ I1 q1) fun vl s2 ⟨l,H2,I2,pl,q2⟩=>bU (hu pins s2 σ H2 _ I2 q2) fun vu s3 ⟨u,H3,I3,pu,q3⟩=>?_)
 rw[evalPart_none]
 refine wpAny_pure ?_
 have I4:Inv X pins σ H3 { s3 with heap:=s3.heap.push { cls:= .type "slice",data:= .fields #[vl,vu, .none] } }:=I3.kept (t':=s3.toks) fun b ob q=>Heap.get?_push_of_some _ q
 obtain ⟨T,id,hT,ht,hg⟩:=hr pins { s3 with heap:=s3.heap.push { cls:= .type "slice",data:= .fields #[vl,vu, .none] } } σ H3 x v vl vu l u s3.heap.objs.size Q I4 r1 (Heap.IsSliceOf.new ..) pl pu q3
 show wpAny (model X.prog X.w) X.A (subscriptTail e (.Slice lo hi none p2) v (.ref s3.heap.objs.size)) (EP X pins σ Q) X.xe { s3 with heap:=s3.heap.push { cls:= .type "slice",data:= .fields #[vl,vu, .none] } }
 exact tail_any (ops:=[.ref s3.heap.objs.size,v]) ht hT hg (by with_unfolding_all rfl)
noncomputable def BX (K:PySem.W.Frag):R2:=fun x y H Q=> ∃a b xs ys,x= .ref a/\y= .ref b/\aW K H a xs/\aW K H b ys/\xs≠[]/\xs.length+ys.length<=sizeLine/\
 (ys=[]->Q (.ref a) H)/\(ys≠[]-> ∀p,H p=none->Q (.ref p) (upd H p (.tup (xs++ys))))
theorem Vals.oK {xs:List V} {us:List Value} (r:Vals xs us):us=[]↔xs=[]:=by
 cases r with
 | nil=>simp
 | cons _ _=>simp
theorem Aq:fq X (binaryOp .Add) (BX X.K):=by
 intro pins s σ H x y v u Q I rx ry h
 obtain ⟨a,b,xs,ys,rfl,rfl,ha,hb,hx,hz,q1,q2⟩:=h
 cases rx
 cases ry
 obtain ⟨ay,r1,p1,_⟩:=I.tuple ha
 obtain ⟨qc,r2,p2,_⟩:=I.tuple hb
 refine HT.Ao p1 p2 (fun z=>hx (r1.oK.mp z)) (fun z=>⟨.ref a,H,I,rfl,q1 (r2.oK.mp z)⟩) (fun z=>?_) (by rw[<-r1.length, <-r2.length];exact hz)
 refine ⟨.ref s.heap.objs.size,_,I.laid (t':=s.toks) (o:= .tup (xs++ys)) (fun b ob q=>Heap.get?_push_of_some _ q) (Nat.le_refl _) ?_,rfl,q2 (fun w=>z (r2.oK.mpr w)) _ (I.bh.fresh (Nat.le_refl _))⟩
 exact ⟨by rw[List.length_append];exact hz,_,r1.append r2,IsTup.new _ _⟩
end
end L2
namespace L2
open PySem PySem.Spec PyProof.Rows
noncomputable def xN (n:Nat) (i:Int):Option Nat:=if 0<=i then (if i<n then some i.toNat else none) else if -(n:Int)<=i then some (i+n).toNat else none
noncomputable def ny {α:Type} (xs:List α) (i:Int):Option α:=(xN xs.length i).bind fun j=>xs[j]?
theorem uf {n:Nat} {i:Int} {j:Nat} (h:xN n i=some j):seqIndex? i n=some j/\j<n/\ -(n:Int)<=i/\i<n:=by
 unfold xN at h
 by_cases h0:0<=i
 ·rw[if_pos h0]at h
  by_cases h1:i<n
  ·rw[if_pos h1]at h
   have e:i.toNat=j:=Option.some.inj h
   exact ⟨by rw[seqIndex_of h0 h1,e],by omega,by omega,h1⟩
  ·rw[if_neg h1]at h;cases h
 ·rw[if_neg h0]at h
  by_cases h1: -(n:Int)<=i
  ·rw[if_pos h1]at h
   have e:(i+n).toNat=j:=Option.some.inj h
   exact ⟨by rw[seqIndex_neg (by omega) h1,e],by omega,h1,by omega⟩
  ·rw[if_neg h1]at h;cases h
theorem oM {α:Type} {xs:List α} {i:Int} {v:α} (h:ny xs i=some v): ∃j,seqIndex? i xs.length=some j/\xs[j]? =some v/\j<xs.length/\ -(xs.length:Int)<=i/\i<xs.length:=by
 unfold ny at h
 cases e:xN xs.length i with
 | none=>rw[e]at h;cases h
 | some j=>
  rw[e]at h
  obtain ⟨h1,h2,h3,h4⟩:=uf e
  exact ⟨j,h1,h,h2,h3,h4⟩
theorem aM {α:Type} {xs:List α} {j:Nat} {v:α} (h:xs[j]? =some v):ny xs (j:Int)=some v:=by
 have hj:j<xs.length:=(List.getElem?_eq_some_iff.mp h).1
 have e:xN xs.length (j:Int)=some j:=by
  unfold xN
  rw[if_pos (by omega),if_pos (by omega)];simp
 unfold ny;rw[e];exact h
theorem qd {α:Type} (xs:List α) (v:α):ny (xs++[v]) (-1)=some v:=by
 have hl:(xs++[v]).length=xs.length+1:=by simp
 have e:xN (xs++[v]).length (-1)=some xs.length:=by
  unfold xN
  rw[hl,if_neg (by decide),if_pos (by omega)]
  congr 1
  omega
 unfold ny
 rw[e]
 show (xs++[v])[xs.length]? =some v
 simp
noncomputable def Ar (b:Expr):Prop:= ∀o i,subscripted b false o i=operate [o,i] (getItem o i)
noncomputable def Ds (X:Cx) (r:R2):Prop:=
 ∀(value slice:Expr) (pins:List (Addr×Obj)) (s:Shared) (σ:St) (H:Hp) (x y:V) (v u:Value) (Q:VK),Inv X pins σ H s->RelV x v->RelV y u->r x y H Q->
  subscripted slice false v u=operate [v,u] (getItem v u)->wpAny (model X.prog X.w) X.A (subscriptTail value slice v u) (EP X pins σ Q) X.xe s
noncomputable def vz (X:Cx) (id:String) (r:V->List V->Hp->VK->Prop):Prop:=
 ∀(pins:List (Addr×Obj)) (s:Shared) (σ:St) (H:Hp) (x:V) (xs:List V) (v:Value) (us:List Value) (Q:VK),Inv X pins σ H s->RelV x v->Vals xs us->r x xs H Q->
  wpAny (model X.prog X.w) X.A (call (.builtin id) (v::us)) (EP X pins σ Q) X.xe s
section
variable {X:Cx} {a b:Expr} {ta tb:TE} {pos:Pos}
theorem aB {r:R2} (hr:Ds X r) (ha:PE X a ta) (hb:PE X b tb) (hs:Ar b):PE X (.Subscript a b pos) (Jy r ta tb):=by
 intro pins s σ H Q I h
 exact Subscript_ (Dj ha hb I h fun v u s2 x y H2 I2 rx ry q=>hr a b pins s2 σ H2 x y v u Q I2 rx ry q (hs _ _))
noncomputable def GD (K:PySem.W.Frag):R2:=fun x y H Q=> ∃p xs i v,x= .ref p/\y= .int i/\aT K H p xs/\ny xs i=some v/\Q v H
noncomputable def GF (K:PySem.W.Frag):R2:=fun x y H Q=> ∃p xs i v,x= .ref p/\y= .int i/\aW K H p xs/\ny xs i=some v/\Q v H
noncomputable def Lw:R2:=fun x y H Q=> ∃z i c,x= .str z/\y= .int i/\z.length<=sizeLine/\ny z.cps.toList i=some c/\Q (.str ⟨#[c]⟩) H
theorem As:Ds X (GD X.K):=by
 intro value slice pins s σ H x y v u Q I rx ry h hs
 obtain ⟨p,xs,i,z,rfl,rfl,hq,he,q⟩:=h
 cases rx
 obtain ⟨t,rfl⟩:=ry
 obtain ⟨ay,r,pl,hz⟩:=I.list hq
 obtain ⟨j,h1,h2,h3,h4,h5⟩:=oM he
 obtain ⟨w,ew,xO⟩:=r.get h2
 have hl:=r.length
 have hn:=fi
 have fin:EP X pins σ Q w s:=⟨z,H,I,xO,q⟩
 by_cases h0:0<=i
 ·have hj:i.toNat=j:=by
   rw[seqIndex_of h0 h5]at h1
   exact Option.some.inj h1
  exact item_listR pl.isList h0 (by omega) (by rw[hj];simpa using ew) fin hs
 ·have hj:(i+(ay.toArray.size:Int)).toNat=j:=by
   rw[seqIndex_neg (by omega) h4]at h1
   rw[List.size_toArray, <-hl]
   exact Option.some.inj h1
  exact subscriptTail_builtinR (x:=w) pl.isList.typeIs slot_list_getitem.lookup
   (wpAny_getItem_list_neg (Q:=fun r s'=>r=w/\EP X pins σ Q r s') pl.isList (by omega) (by rw[List.size_toArray]<;>omega) (by omega) (by rw[hj];simpa using ew) ⟨rfl,fin⟩) hs
theorem Dt:Ds X (GF X.K):=by
 intro value slice pins s σ H x y v u Q I rx ry h hs
 obtain ⟨p,xs,i,z,rfl,rfl,hq,he,q⟩:=h
 cases rx
 obtain ⟨t,rfl⟩:=ry
 obtain ⟨ay,r,pl,hz⟩:=I.tuple hq
 obtain ⟨j,h1,h2,h3,h4,h5⟩:=oM he
 obtain ⟨w,ew,xO⟩:=r.get h2
 have hl:=r.length
 have hn:=fi
 have fin:EP X pins σ Q w s:=⟨z,H,I,xO,q⟩
 exact subscriptTail_builtinR (x:=w) pl.typeIs slot_tuple_getitem.lookup
  (getItem_tuple (j:=j) (Q:=fun r s'=>r=w/\EP X pins σ Q r s') pl (by omega) (by omega) (by rw[List.size_toArray, <-hl];exact h1) (by simpa using ew) ⟨rfl,fin⟩) hs
theorem Du:Ds X Lw:=by
 intro value slice pins s σ H x y v u Q I rx ry h hs
 obtain ⟨z,i,c,rfl,rfl,hz,he,q⟩:=h
 obtain ⟨t,rfl⟩:=rx
 obtain ⟨t',rfl⟩:=ry
 obtain ⟨j,h1,h2,h3,h4,h5⟩:=oM he
 have hl:z.cps.toList.length=z.length:=by simp[Str.length]
 rw[hl]at h1 h4 h5
 have hn:=fi
 exact tail_any (typeIs_str s z t) slot_str_getitem.lookup (getItem_str (c:=c) (by
  have e1:decide (i< -(2 ^ 63:Int))=false:=decide_eq_false (by omega)
  have e2:decide (i ≥ 2 ^ 63)=false:=decide_eq_false (by omega)
  rw[e1,e2,Bool.or_false]) (by rw[h1];simpa using h2) ⟨.str ⟨#[c]⟩,H,I.tok _,⟨_,rfl⟩,q⟩) hs
theorem rS (ay:List Value) (n j:Nat) (u:Value):Obj.mapSeq (·.setIfInBounds j u) { cls:= .type "list",data:= .seq ay.toArray n }={ cls:= .type "list",data:= .seq (ay.set j u).toArray n }:=by
 simp[Obj.mapSeq]
theorem Inv.lst {pins:List (Addr×Obj)} {σ:St} {H:Hp} {s:Shared} {p:Addr} {xs:List V} (I:Inv X pins σ H s) (h:H p=some (.lst xs)):
  ∃(ay:List Value) (n:Nat),Vals xs ay/\s.heap.get? p=some { cls:= .type "list",data:= .seq ay.toArray n }/\xs.length<=sizeLine:=by
 obtain ⟨z,ay,n,r,e⟩:=I.bh p _ h
 exact ⟨ay,n,r,e,z⟩
theorem Inv.Dv {pins:List (Addr×Obj)} {σ:St} {H:Hp} {s:Shared} {p:Addr} {xs ys:List V} {ay its':List Value} {n n':Nat} {f:Obj->Obj} (I:Inv X pins σ H s) (h:H p=some (.lst xs))
  (ho:s.heap.get? p=some { cls:= .type "list",data:= .seq ay.toArray n }) (hf:f { cls:= .type "list",data:= .seq ay.toArray n }={ cls:= .type "list",data:= .seq its'.toArray n' }) (r:Vals ys its') (hz:ys.length<=sizeLine) (t:Nat):
  Inv X pins σ (upd H p (.lst ys)) { s with heap:=s.heap.update p f,toks:=t }:=by
 have e:(s.heap.update p f).get? p=some { cls:= .type "list",data:= .seq its'.toArray n' }:=by
  rw[Heap.get?_update_self f ho (by rw[hf]<;>rfl),hf]
 refine I.write (x:=p) (e:=p) (by rw[h];trivial) (.inl rfl) (fun b u hb q=>(Heap.get?_update_other _ _ (Ne.symm hb)).trans q) ⟨_,e⟩ ?_
 exact ⟨hz,its',n',r,e⟩
noncomputable def GG:V->V->V->Hp->(Hp->Prop)->Prop:=fun o i v H Q=> ∃p xs k j,o= .ref p/\i= .int k/\H p=some (.lst xs)/\xN xs.length k=some j/\Q (upd H p (.lst (xs.set j v)))
theorem set_list:Gj X GG:=by
 intro pins s σ H o i v ov iv u Q I ro ri rv h
 obtain ⟨p,xs,k,j,rfl,rfl,hp,hj,q⟩:=h
 cases ro
 obtain ⟨t,rfl⟩:=ri
 obtain ⟨ay,n,r,ho,hz⟩:=I.lst hp
 obtain ⟨h1,h2,h3,h4⟩:=uf hj
 have hl:=r.length
 have hn:=fi
 have I':Inv X pins σ (upd H p (.lst (xs.set j v))) { s with heap:=s.heap.update p (Obj.mapSeq (·.setIfInBounds j u)) }:=
  I.Dv hp ho (rS ay n j u) (r.set rv j) (by rw[List.length_set];exact hz) s.toks
 by_cases h0:0<=k
 ·have hk:k.toNat=j:=by
   rw[seqIndex_of h0 h4]at h1
   exact Option.some.inj h1
  exact PySem.W.ki_setAt ho h0 (by omega) (by rw[List.size_toArray, <-hl];exact h4) (by rw[hk];exact ⟨_,I',q⟩)
 ·have hk:(k+(ay.toArray.size:Int)).toNat=j:=by
   rw[seqIndex_neg (by omega) h3]at h1
   rw[List.size_toArray, <-hl]
   exact Option.some.inj h1
  exact PySem.W.ki_setBack ho (by omega) (by rw[List.size_toArray, <-hl];exact h3) (by omega) (by rw[hk];exact ⟨_,I',q⟩)
noncomputable def i5:V->Bool
 | .bW=>true
 | .bl _=>true
 | .int _=>true
 | .str _=>true
 | _=>false
noncomputable def zM:V->V->Bool
 | .bW, .bW=>true
 | .bl a, .bl b=>a==b
 | .bl a, .int b=>(if a then 1 else 0)==b
 | .int a, .bl b=>a==(if b then 1 else 0)
 | .int a, .int b=>a==b
 | .str a, .str b=>a==b
 | _,_=>false
theorem Dx {A:Around} {s:Shared} {y x:V} {u v:Value} (ry:RelV y u) (rx:RelV x v) (fy:i5 y=true) (fx:i5 x=true):SeqAt.EqAt A s u v (zM y x):=by
 cases y with
 | bW=>
  cases ry
  cases x with
  | bW=>cases rx;exact SeqAt.EqAt.same _
  | bl b=>cases rx;exact SeqAt.EqAt.none_bool b
  | int b=>obtain ⟨t,rfl⟩:=rx;exact SeqAt.EqAt.none_int b t
  | str b=>obtain ⟨t,rfl⟩:=rx;exact SeqAt.EqAt.none_str b t
  | _=>exact absurd (show false=true from fx) Bool.false_ne_true
 | bl a=>
  cases ry
  cases x with
  | bW=>cases rx;exact SeqAt.EqAt.bool_none a
  | bl b=>cases rx;exact SeqAt.EqAt.bool_bool a b
  | int b=>obtain ⟨t,rfl⟩:=rx;exact SeqAt.EqAt.bool_int a b t
  | str b=>obtain ⟨t,rfl⟩:=rx;exact SeqAt.EqAt.bool_str a b t
  | _=>exact absurd (show false=true from fx) Bool.false_ne_true
 | int a=>
  obtain ⟨t',rfl⟩:=ry
  cases x with
  | bW=>cases rx;exact SeqAt.EqAt.int_none a t'
  | bl b=>cases rx;exact SeqAt.EqAt.int_bool a t' b
  | int b=>obtain ⟨t,rfl⟩:=rx;exact SeqAt.EqAt.int_int a t' b t
  | str b=>obtain ⟨t,rfl⟩:=rx;exact SeqAt.EqAt.int_str a t' b t
  | _=>exact absurd (show false=true from fx) Bool.false_ne_true
 | str a=>
  obtain ⟨t',rfl⟩:=ry
  cases x with
  | bW=>cases rx;exact SeqAt.EqAt.str_none a t'
  | bl b=>cases rx;exact SeqAt.EqAt.str_bool a t' b
  | int b=>obtain ⟨t,rfl⟩:=rx;exact SeqAt.EqAt.str_int a t' b t
  | str b=>obtain ⟨t,rfl⟩:=rx;exact SeqAt.EqAt.str_str a t' b t
  | _=>exact absurd (show false=true from fx) Bool.false_ne_true
 | _=>exact absurd (show false=true from fy) Bool.false_ne_true
noncomputable def Au (x:V) (u:Value):Bool:=match u with
 | .none=>zM .bW x
 | .bool b=>zM (.bl b) x
 | .int i _=>zM (.int i) x
 | .str z _=>zM (.str z) x
 | _=>false
theorem xP {x y:V} {u:Value} (r:RelV y u) (f:i5 y=true):Au x u=zM y x:=by
 cases y with
 | bW=>cases r;rfl
 | bl b=>cases r;rfl
 | int i=>obtain ⟨t,rfl⟩:=r;rfl
 | str z=>obtain ⟨t,rfl⟩:=r;rfl
 | _=>exact absurd (show false=true from f) Bool.false_ne_true
theorem oN {x:V}: ∀{xs:List V} {us:List Value},Vals xs us->xs.all i5=true->us.any (Au x)=xs.any fun y=>zM y x
 | _,_, .nil,_=>rfl
 | y::xs,u::us, .cons r t,f=>by
  rw[List.all_cons,Bool.and_eq_true]at f
  rw[List.any_cons,List.any_cons,xP r f.1,oN t f.2]
theorem kX {A:Around} {s:Shared} {x:V} {v:Value} (rx:RelV x v) (fx:i5 x=true): ∀{xs:List V} {us:List Value},Vals xs us->xs.all i5=true-> ∀u∈us,SeqAt.EqAt A s u v (Au x u)
 | _,_, .nil,_=>fun u hu=>by cases hu
 | y::xs,u::us, .cons r t,f=>fun u' hu=>by
  rw[List.all_cons,Bool.and_eq_true]at f
  rcases List.mem_cons.mp hu with rfl | hu
  ·rw[xP r f.1];exact Dx r rx f.1 fx
  ·exact kX rx fx t f.2 u' hu
noncomputable def Av (x:V) (xs:List V):Bool:=xs.any fun y=>zM y x
noncomputable def R8 (K:PySem.W.Frag) (neg:Bool):R2:=fun x y H Q=> ∃p xs,y= .ref p/\(aT K H p xs\/aW K H p xs)/\i5 x=true/\xs.all i5=true/\Q (.bl (if neg then !Av x xs else Av x xs)) H
theorem vA:fq X (compareOp .In) (R8 X.K false):=by
 intro pins s σ H x y v u Q I rx ry h
 obtain ⟨p,xs,rfl,hq,fx,fs,q⟩:=h
 cases ry
 rcases hq with hq | hq
 ·obtain ⟨ay,r,pl,hz⟩:=I.list hq
  refine SeqAt.in_listAt (Au x) pl.isList (fun w hw=>kX rx fx r fs w (by simpa using hw)) ⟨.bl _,H,I,rfl,?_⟩
  rw[show ay.toArray.any (Au x)=ay.any (Au x) by simp,oN r fs]
  exact q
 ·obtain ⟨ay,r,pl,hz⟩:=I.tuple hq
  refine SeqAt.in_tupleAt (Au x) pl (fun w hw=>kX rx fx r fs w (by simpa using hw)) ⟨.bl _,H,I,rfl,?_⟩
  rw[show ay.toArray.any (Au x)=ay.any (Au x) by simp,oN r fs]
  exact q
theorem oO:fq X (compareOp .NotIn) (fun x y H Q=> ∃i j,x= .str i/\y= .str j/\Q (.bl (!(!(Builtin.Str.occurrences j i 0 j.length 1).isEmpty))) H):=by
 intro pins s σ H x y v u Q I rx ry h
 obtain ⟨i,j,rfl,rfl,q⟩:=h
 obtain ⟨t,rfl⟩:=rx
 obtain ⟨t',rfl⟩:=ry
 exact notIn_str ⟨.bl _,H,I,rfl,q⟩
theorem oP:cV X (.builtin "len") (fun xs H Q=> ∃p ys,xs=[.ref p]/\(aT X.K H p ys\/aW X.K H p ys)/\Q (.int ys.length) H):=by
 intro pins s σ H xs us Q I r h
 obtain ⟨p,ys,rfl,hq,q⟩:=h
 obtain ⟨u,rfl,rx⟩:=vals1 r
 cases rx
 have hn:=fi
 rcases hq with hq | hq
 ·obtain ⟨ay,r',pl,hz⟩:=I.list hq
  have hlen:=r'.length
  exact Calls.call_len_list pl.isList (by simp only[List.size_toArray]<;>omega) ⟨.int ys.length,H,I.tok _,⟨s.toks+1,by rw[List.size_toArray,hlen]⟩,q⟩
 ·obtain ⟨ay,r',pl,hz⟩:=I.tuple hq
  have hlen:=r'.length
  exact len_tuple pl (by simp only[List.size_toArray]<;>omega) ⟨.int ys.length,H,I.tok _,⟨s.toks+1,by rw[List.size_toArray,hlen]⟩,q⟩
theorem oQ:cV X (.builtin "len") (fun xs H Q=> ∃z,xs=[.str z]/\z.length<=sizeLine/\Q (.int z.length) H):=by
 intro pins s σ H xs us Q I r h
 obtain ⟨z,rfl,hz,q⟩:=h
 obtain ⟨u,rfl,t,rfl⟩:=vals1 r
 have hn:=fi
 exact len_str (by omega) ⟨.int z.length,H,I.tok _,⟨_,rfl⟩,q⟩
theorem oR:cV X (.type "list") (fun xs H Q=> ∃p ys,xs=[.ref p]/\(aT X.K H p ys\/aW X.K H p ys)/\ ∀l,H l=none->Q (.ref l) (upd H l (.lst ys))):=by
 intro pins s σ H xs us Q I r h
 obtain ⟨p,ys,rfl,hq,q⟩:=h
 obtain ⟨u,rfl,rx⟩:=vals1 r
 cases rx
 have fin: ∀(ay:List Value),Vals ys ay->ys.length<=sizeLine-> ∀(h':Heap) (c':Nat),(∀b o',s.heap.get? b=some o'->h'.get? b=some o')->
   h'.get? s.heap.objs.size=some { cls:= .type "list",dict:=none,data:= .seq ay.toArray c',slots:= #[] }->EP X pins σ Q (.ref s.heap.objs.size) { s with heap:=h' }:=fun ay r' hz h' c' kp e=>
  ⟨.ref s.heap.objs.size,_,I.laid (t':=s.toks) kp (Nat.le_refl _) (show cI X.prog X.w _ h' _ (.lst ys) from ⟨hz,ay,c',r',e⟩),rfl,q _ (I.bh.fresh (Nat.le_refl _))⟩
 rcases hq with hq | hq
 ·obtain ⟨ay,r',pl,hz⟩:=I.list hq
  have hlen:=r'.length
  obtain ⟨o,ho,hc,n,hd⟩:=pl.isList
  exact call_list_seq p (.inl rfl) ho hc hd (fun h' c' kp e=>fin ay r' hz h' c' kp e) (by simp only[List.size_toArray]<;>omega)
 ·obtain ⟨ay,r',pl,hz⟩:=I.tuple hq
  have hlen:=r'.length
  obtain ⟨o,ho,hc,n,hd⟩:=pl
  exact call_list_seq p (.inr rfl) ho hc hd (fun h' c' kp e=>fin ay r' hz h' c' kp e) (by simp only[List.size_toArray]<;>omega)
theorem mN:cV X (.type "tuple") (fun xs H Q=> ∃p ys,xs=[.ref p]/\((aT X.K H p ys/\ ∀l,H l=none->Q (.ref l) (upd H l (.tup ys)))\/(aW X.K H p ys/\Q (.ref p) H))):=by
 intro pins s σ H xs us Q I r h
 obtain ⟨p,ys,rfl,h⟩:=h
 obtain ⟨u,rfl,rx⟩:=vals1 r
 cases rx
 rcases h with ⟨hq,q⟩ | ⟨hq,q⟩
 ·obtain ⟨ay,r',pl,hz⟩:=I.list hq
  have hlen:=r'.length
  refine call_tuple_list pl.isList (fun h' kp=>?_) (by simp only[List.size_toArray]<;>omega)
  have I1:Inv X pins σ H { s with heap:=h' }:=I.kept (t':=s.toks) kp
  have I2:Inv X pins σ (upd H h'.objs.size (.tup ys)) { s with heap:=h'.push { cls:= .type "tuple",data:= .seq ay.toArray } }:=
   I1.laid (t':=s.toks) (fun b o e=>Heap.get?_push_of_some _ e) (Nat.le_refl _) (show cI X.prog X.w _ _ _ (.tup ys) from ⟨hz,ay,r',IsTup.new _ _⟩)
  exact ⟨.ref h'.objs.size,_,I2,rfl,q _ (I1.bh.fresh (Nat.le_refl _))⟩
 ·obtain ⟨ay,r',pl,hz⟩:=I.tuple hq
  exact call_tuple_same pl ⟨.ref p,H,I,rfl,q⟩
noncomputable def Lx (K:PySem.W.Frag) (T:String) (x:V) (H:Hp):Prop:=match x with
 | .str _=>T="str"
 | .int _=>T="int"
 | .ref p=>(T="list"/\ ∃xs,aT K H p xs)\/(T="tuple"/\ ∃o,K.lookup p=some o/\o.cls= .type "tuple"/\o.dict=none)\/
   (T="dict"/\((∃kvs,H p=some (.dK kvs))\/ ∃kvs,H p=some (.dT kvs)))\/(T="set"/\ ∃S n,H p=some (.set S n))
 | _=>False
theorem xQ {pins:List (Addr×Obj)} {σ:St} {H:Hp} {s:Shared} {T:String} {x:V} {v:Value} (I:Inv X pins σ H s) (r:RelV x v) (ty:Lx X.K T x H):
  s.TypeIs v T/\ ∀a,v= .ref a-> ∃ob,s.heap.get? a=some ob/\ob.dict=none:=by
 cases x with
 | str z=>
  obtain ⟨t,rfl⟩:=r
  cases (show T="str" from ty)
  exact ⟨typeIs_str s z t,fun _ e=>nomatch e⟩
 | int i=>
  obtain ⟨t,rfl⟩:=r
  cases (show T="int" from ty)
  exact ⟨typeIs_int s i t,fun _ e=>nomatch e⟩
 | ref p=>
  cases r
  rcases ty with ⟨rfl,xs,hq⟩ | ⟨rfl,o,hk,hc,hd⟩ | ⟨rfl,hk⟩ | ⟨rfl,S,n,hk⟩
  ·obtain ⟨ay,_,pl,_⟩:=I.list hq
   refine ⟨pl.isList.typeIs,fun a e=>?_⟩
   cases e
   obtain ⟨o,n,e,c,hd,_⟩:=pl
   exact ⟨o,e,hd⟩
  ·refine ⟨⟨o,I.Fs p o hk,hc⟩,fun a e=>?_⟩
   cases e
   exact ⟨o,I.Fs _ o hk,hd⟩
  ·have z: ∃o,s.heap.get? p=some o/\o.ExactDict:=by
    rcases hk with ⟨kvs,hk⟩ | ⟨kvs,hk⟩
    ·obtain ⟨_,_,_,_,o,_,_,e,ex,_⟩:=I.bh p _ hk
     exact ⟨o,e,ex⟩
    ·obtain ⟨_,_,_,_,o,_,_,e,ex,_⟩:=I.bh p _ hk
     exact ⟨o,e,ex⟩
   obtain ⟨o,e,ex⟩:=z
   refine ⟨⟨o,e,ex.1⟩,fun a e2=>?_⟩
   cases e2
   exact ⟨o,e,ex.2.1⟩
  ·obtain ⟨o,_,_,_,e,ex,_⟩:=I.bh p _ hk
   refine ⟨⟨o,e,ex.1⟩,fun a e2=>?_⟩
   cases e2
   exact ⟨o,e,ex.2.1⟩
 | _=>exact False.elim ty
noncomputable def GH (K:PySem.W.Frag) (T:String) (r:V->List V->Hp->VK->Prop) (to:TE):TE:=fun σ H Q=>to σ H fun x H1=>Lx K T x H1/\r x [] H1 Q
noncomputable def R9 (K:PySem.W.Frag) (T:String) (r:V->List V->Hp->VK->Prop) (to:TE) (t:TA):TE:=fun σ H Q=>to σ H fun x H1=>Lx K T x H1/\t σ H1 fun xs H2=>r x xs H2 Q
variable {o e:Expr} {es:List Expr} {to:TE} {t:TA} {name:Str} {apos dm:Pos} {T id:String} {r:V->List V->Hp->VK->Prop}
theorem Dy (pa:PlainAttrs T) (slot:Slot T name id) (Dz:typeOf (.builtin id)=pure (.type "method_descriptor")) (hm:vz X id r) (ho:PE X o to)
  (kY:attributeBase o name X.env (eval o X.env)=eval o X.env:=by rfl) (i6:(apos.endLine==dm.line)=true:=by rfl):PE X (.Call (.Attribute o name apos) [] [] dm) (GH X.K T r to):=by
 intro pins s σ H Q I h
 refine wpAny_Call_method0_late kY i6 (bU (ho pins s σ H _ I h) fun v s1 ⟨x,H1,I1,r1,ty,q1⟩=>?_)
 obtain ⟨h1,h2⟩:=xQ I1 r1 ty
 exact ⟨T,id,pa,slot,Dz,h1,h2,Calls.callWith_builtin rfl (PySem.evalArgs_none (hm pins s1 σ H1 x [] v [] Q I1 r1 .nil q1))⟩
theorem GI (pa:PlainAttrs T) (slot:Slot T name id) (Dz:typeOf (.builtin id)=pure (.type "method_descriptor")) (hm:vz X id r) (ho:PE X o to) (ha:PA X (e::es) t)
  (kY:attributeBase o name X.env (eval o X.env)=eval o X.env:=by rfl)
  (DA:((backTo dm (starEach (e::es) X.env)).all (fun x=>!x.1)&&(backToKw dm (keywordEach [] X.env)).all (fun x=>x.1.isSome)
   &&decide ((e::es).length+([]:List Keyword).length+(if ([]:List Keyword).isEmpty then 0 else 1)<30))=true:=by rfl)
  (i6:(apos.endLine==dm.line)=true:=by rfl) (hs:starEach (e::es) X.env=(false,eval e X.env)::starEach es X.env:=by rfl) (rT:(backTo dm (starEach es X.env)).any (·.1)=false:=by rfl):
  PE X (.Call (.Attribute o name apos) (e::es) [] dm) (R9 X.K T r to t):=by
 intro pins s σ H Q I h
 refine wpAny_Call_method_late kY DA i6 rfl (bU (ho pins s σ H _ I h) fun v s1 ⟨x,H1,I1,r1,ty,q1⟩=>?_)
 obtain ⟨h1,h2⟩:=xQ I1 r1 ty
 refine ⟨T,id,pa,slot,Dz,h1,h2,?_⟩
 have hA:=ha dm pins s1 σ H1 _ I1 q1
 rw[hs]at hA ⊢
 refine Calls.callWith_builtin (by show (false||(backTo dm (starEach es X.env)).any (·.1))=false;rw[rT]<;>rfl) (Calls.evalArgs_plain ?_)
 exact bU hA fun us s2 ⟨vs,H2,I2,r2,q2⟩=>hm pins s2 σ H2 x vs v us Q I2 r1 r2 q2
/- xs.append(e),list.index on a xR tuple .. are vz facts of 06m -/
end
end L2
namespace L2
open PySem PySem.Spec PyProof.Rows
noncomputable def GJ (X:Cx) (id:String) (r:V->List V->Hp->VK->Prop):Prop:=
 ∀(pins:List (Addr×Obj)) (s:Shared) (σ:St) (H:Hp) (x:V) (xs:List V) (v:Value) (us:List Value) (Q:VK),Inv X pins σ H s->RelV x v->Vals xs us->r x xs H Q->
  wpAny (model X.prog X.w) X.A (call (.builtin id) (v::us)) (EP X pins σ Q) X.xe s
theorem Vals.one: ∀{x:V} {us:List Value},Vals [x] us-> ∃u,us=[u]/\RelV x u
 | _,_, .cons r .nil=>⟨_,rfl,r⟩
theorem Vals.zero: ∀{us:List Value},Vals [] us->us=[]
 | _, .nil=>rfl
theorem Vals.dropLast {xs:List V} {us:List Value} (h:Vals xs us):Vals xs.dropLast us.dropLast:=by
 induction h with
 | nil=>exact .nil
 | cons r t ih=>
  cases t with
  | nil=>exact .nil
  | cons q t'=>exact .cons r ih
theorem Vals.eraseIdx: ∀{xs:List V} {us:List Value} (i:Nat),Vals xs us->Vals (xs.eraseIdx i) (us.eraseIdx i)
 | _,_,_, .nil=> .nil
 | _,_,0, .cons _ t=>t
 | _,_,i+1, .cons r t=> .cons r (Vals.eraseIdx i t)
theorem Vals.rep {xs:List V} {us:List Value} (h:Vals xs us): ∀k:Nat,Vals (List.replicate k xs).flatten (List.replicate k us).flatten
 | 0=> .nil
 | k+1=>by
  rw[List.replicate_succ,List.replicate_succ,List.flatten_cons,List.flatten_cons]
  exact Vals.append h (Vals.rep h k)
theorem rV {α:Type} (l:List α):l.eraseIdx (l.length - 1)=l.dropLast:=by
 induction l with
 | nil=>rfl
 | cons a r ih=>
  cases r with
  | nil=>rfl
  | cons b r=>
   have e:(a::b::r).length - 1=((b::r).length - 1)+1:=by
    have h1:(a::b::r).length=r.length+2:=rfl
    have h2:(b::r).length=r.length+1:=rfl
    omega
   rw[e,List.eraseIdx_cons_succ,ih]
   all_goals rfl
theorem nz {α:Type}: ∀(l:List α) (i:Nat),(l.eraseIdx i).length<=l.length
 | [],_=>Nat.le_refl _
 | _::_,0=>Nat.le_succ _
 | _::r,i+1=>Nat.succ_le_succ (nz r i)
theorem foldl_rep (ay:List Value): ∀(k:Nat) (acc:List Value),
  List.foldl (fun x1 x2=>x1++x2) acc.toArray (List.replicate k ay.toArray)=(acc++(List.replicate k ay).flatten).toArray
 | 0,acc=>by simp
 | k+1,acc=>by
  have e:acc.toArray++ay.toArray=(acc++ay).toArray:=by simp
  have e2:(acc++ay)++(List.replicate k ay).flatten=acc++(List.replicate (k+1) ay).flatten:=by
   rw[List.replicate_succ,List.flatten_cons,List.append_assoc]
  rw[<-e2, <-foldl_rep ay k (acc++ay), <-e,List.replicate_succ,List.foldl_cons]
section
variable {X:Cx} {pins:List (Addr×Obj)} {σ:St} {H:Hp} {s:Shared} {l b:Addr} {xs ys zs:List V}
theorem Inv.xS {ay its':List Value} {n:Nat} {f:Array Value->Array Value} {t':Nat} (I:Inv X pins σ H s) (hH:H l=some (.lst xs))
  (e:s.heap.get? l=some { cls:= .type "list",data:= .seq ay.toArray n }) (hf:f ay.toArray=its'.toArray) (hv:Vals ys its') (hz:ys.length<=sizeLine):
  Inv X pins σ (upd H l (.lst ys)) { s with heap:=s.heap.update l (Obj.mapSeq f),toks:=t' }:=by
 have q:=PySem.IsL.update e f
 rw[hf]at q
 refine I.write (x:=l) (e:=l) (by rw[hH];exact trivial) (.inl rfl) (fun b' u hb hu=>(Heap.get?_update_other s.heap (Obj.mapSeq f) (Ne.symm hb)).trans hu) ⟨_,q⟩ ?_
 exact ⟨hz,its',_,hv,q⟩
theorem Inv.GK {ay:List Value} {t':Nat} (I:Inv X pins σ H s) (hv:Vals ys ay) (hz:ys.length<=sizeLine):
  Inv X pins σ (upd H s.heap.objs.size (.lst ys)) { s with heap:=s.heap.push { cls:= .type "list",data:= .seq ay.toArray },toks:=t' }:=
 I.laid (fun _ _ q=>Heap.get?_push_of_some _ q) (Nat.le_refl _) ⟨hz,ay,0,hv,Heap.get?_push_size _ rfl⟩
theorem Inv.fresh (I:Inv X pins σ H s):H s.heap.objs.size=none:=I.bh.fresh (Nat.le_refl _)
theorem Inv.mP (I:Inv X pins σ H s) (hH:H l=some (.lst xs)):xs.length<=sizeLine/\ ∃(ay:List Value) (n:Nat),Vals xs ay/\xs.length=ay.length/\s.heap.get? l=some { cls:= .type "list",data:= .seq ay.toArray n }:=by
 obtain ⟨z,ay,n,r,e⟩:=I.bh l _ hH
 exact ⟨z,ay,n,r,r.length,e⟩
theorem qe {n:Nat} (h:n<=sizeLine):Builtin.List.listTooLong n=false:=by
 unfold Builtin.List.listTooLong
 exact decide_eq_false (by omega)
end
section
variable {X:Cx}
noncomputable def Aw:V->List V->Hp->VK->Prop:=fun x vs H Q=> ∃l xs y,x= .ref l/\vs=[y]/\H l=some (.lst xs)/\xs.length<sizeLine/\Q .bW (upd H l (.lst (xs++[y])))
theorem bt:GJ X "list.append" Aw:=by
 intro pins s σ H x vs v us Q I rx rv h
 obtain ⟨l,xs,y,rfl,rfl,hH,hz,q⟩:=h
 cases rx
 obtain ⟨u,rfl,ru⟩:=rv.one
 obtain ⟨z,ay,n,r,hl,e⟩:=I.mP hH
 refine call_meets F.slot_list_append ⟨_,e,rfl⟩ F.entry_list_append (F.args_list_append_2 _ _) (PySem.list_append l ay.toArray n u (by rw[List.size_toArray];omega)) ⟨e,?_⟩
 refine ⟨.bW,_,I.xS (its':=ay++[u]) hH e (by simp) (r.append (.cons ru .nil)) ?_,rfl,q⟩
 rw[List.length_append,List.length_singleton]
 omega
noncomputable def Ax:V->List V->Hp->VK->Prop:=fun x vs H Q=> ∃l b xs zs,x= .ref l/\vs=[.ref b]/\H l=some (.lst xs)/\H b=some (.lst zs)/\xs.length+zs.length<=sizeLine/\Q .bW (upd H l (.lst (xs++zs)))
theorem g8:GJ X "list.extend" Ax:=by
 intro pins s σ H x vs v us Q I rx rv h
 obtain ⟨l,b,xs,zs,rfl,rfl,hH,hB,hz,q⟩:=h
 cases rx
 obtain ⟨u,rfl,ru⟩:=rv.one
 cases ru
 obtain ⟨z,ay,n,r,hl,e⟩:=I.mP hH
 obtain ⟨z2,qc,n2,r2,oS,e2⟩:=I.mP hB
 have hsz:ay.toArray.size+qc.toArray.size<=sizeLine:=by rw[List.size_toArray,List.size_toArray];omega
 have xT: ¬(!ay.toArray.isEmpty&&Builtin.List.listTooLong (ay.toArray.size+qc.toArray.size))=true:=by
  rw[qe hsz,Bool.and_false]
  exact Bool.false_ne_true
 refine call_meets F.slot_list_extend ⟨_,e,rfl⟩ F.entry_list_extend (F.args_list_extend_2 _ _)
  (AutoSeq1.list_extend_list_list_0 l ay.toArray n b qc.toArray n2 xT (by rw[List.size_toArray];omega) (by omega)) ⟨e,e2,?_⟩
 refine ⟨.bW,_,I.xS (its':=ay++qc) hH e (by simp) (r.append r2) ?_,rfl,q⟩
 rw[List.length_append]
 omega
noncomputable def Ly:V->List V->Hp->VK->Prop:=fun x vs H Q=> ∃l xs y,x= .ref l/\vs=[]/\H l=some (.lst xs)/\xs[xs.length - 1]? =some y/\Q y (upd H l (.lst xs.dropLast))
theorem DB:GJ X "list.pop" Ly:=by
 intro pins s σ H x vs v us Q I rx rv h
 obtain ⟨l,xs,y,rfl,rfl,hH,hy,q⟩:=h
 cases rx
 have xo:=rv.zero
 subst xo
 obtain ⟨z,ay,n,r,hl,e⟩:=I.mP hH
 obtain ⟨u,hu,ru⟩:=r.get hy
 have UH:ay.toArray[ay.toArray.size - 1]? =some u:=by
  show ay.toArray[ay.length - 1]? =some u
  rw[<-Array.getElem?_toList, <-hl]
  exact hu
 refine call_meets F.slot_list_pop ⟨_,e,rfl⟩ F.entry_list_pop (F.args_list_pop_1 _) (MeetsSeq.list_pop_last l ay.toArray n u UH (by rw[List.size_toArray];omega)) ⟨e,?_⟩
 refine ⟨y,_,I.xS (its':=ay.dropLast) hH e ?_ r.dropLast ?_,ru,q⟩
 ·show ay.toArray.eraseIdxIfInBounds (ay.toArray.size - 1)=ay.dropLast.toArray
  rw[List.size_toArray,List.eraseIdxIfInBounds_toArray,rV]
 ·rw[List.length_dropLast]
  omega
noncomputable def DC:V->List V->Hp->VK->Prop:=fun x vs H Q=> ∃l xs i k y,x= .ref l/\vs=[.int i]/\H l=some (.lst xs)/\ -(2 ^ 63)<=i/\i<2 ^ 63/\seqIndex? i xs.length=some k/\xs[k]? =some y/\Q y (upd H l (.lst (xs.eraseIdx k)))
theorem i7:GJ X "list.pop" DC:=by
 intro pins s σ H x vs v us Q I rx rv h
 obtain ⟨l,xs,i,k,y,rfl,rfl,hH,h1,h2,hk,hy,q⟩:=h
 cases rx
 obtain ⟨u,rfl,ru⟩:=rv.one
 obtain ⟨t,rfl⟩:=ru
 obtain ⟨z,ay,n,r,hl,e⟩:=I.mP hH
 obtain ⟨w,hw,xO⟩:=r.get hy
 refine call_meets F.slot_list_pop ⟨_,e,rfl⟩ F.entry_list_pop (F.args_list_pop_2 _ _)
  (MeetsSeq.list_pop_at l ay.toArray n i t k w (fitsIndex_both h1 h2) (by rw[List.size_toArray, <-hl];exact hk) (by rw[<-Array.getElem?_toList];exact hw) (by rw[List.size_toArray];omega)) ⟨e,?_⟩
 refine ⟨y,_,I.xS (its':=ay.eraseIdx k) hH e ?_ (r.eraseIdx k) ?_,xO,q⟩
 ·show ay.toArray.eraseIdxIfInBounds k=(ay.eraseIdx k).toArray
  rw[List.eraseIdxIfInBounds_toArray]
 ·have:=nz xs k
  omega
noncomputable def Lz:R2:=fun x y H Q=> ∃l b xs zs,x= .ref l/\y= .ref b/\H l=some (.lst xs)/\H b=some (.lst zs)/\xs.length+zs.length<=sizeLine/\ ∀p,H p=none->Q (.ref p) (upd H p (.lst (xs++zs)))
theorem iF:fq X (binaryOp .Add) Lz:=by
 intro pins s σ H x y v u Q I rx ry h
 obtain ⟨l,b,xs,zs,rfl,rfl,hH,hB,hz,q⟩:=h
 cases rx
 cases ry
 obtain ⟨z,ay,n,r,hl,e⟩:=I.mP hH
 obtain ⟨z2,qc,n2,r2,oS,e2⟩:=I.mP hB
 refine PySem.P.add_list e e2 ?_ (by rw[List.size_toArray,List.size_toArray];omega)
 have ea:ay.toArray++qc.toArray=(ay++qc).toArray:=by simp
 rw[ea]
 exact ⟨.ref _,_,I.GK (t':=s.toks) (r.append r2) (by rw[List.length_append];omega),rfl,q _ I.fresh⟩
noncomputable def LA:R2:=fun x y H Q=> ∃l k xs,x= .ref l/\y= .int k/\H l=some (.lst xs)/\ -(2 ^ 63)<=k/\k<2 ^ 63/\xs.length*k.toNat<=sizeLine/\
 ∀p,H p=none->Q (.ref p) (upd H p (.lst (List.replicate k.toNat xs).flatten))
theorem len_rep {α:Type} (xs:List α) (k:Nat):(List.replicate k xs).flatten.length=k*xs.length:=by
 induction k with
 | zero=>simp
 | succ k ih=>rw[List.replicate_succ,List.flatten_cons,List.length_append,ih,Nat.succ_mul,Nat.add_comm]
theorem DD:fq X (binaryOp .Mult) LA:=by
 intro pins s σ H x y v u Q I rx ry h
 obtain ⟨l,k,xs,rfl,rfl,hH,h1,h2,hz,q⟩:=h
 cases rx
 obtain ⟨t,rfl⟩:=ry
 obtain ⟨z,ay,n,r,hl,e⟩:=I.mP hH
 have hlen:ay.toArray.size*k.toNat<=sizeLine:=by rw[List.size_toArray, <-hl];exact hz
 have LB: ¬ay.toArray.size*k.toNat>(2 ^ 63 - 1) / 8:=by
  have:(sizeLine:Nat)<=(2 ^ 63 - 1) / 8:=by decide
  omega
 have LC: ¬(!Builtin.List.listFitsIndex k)=true:=by
  rw[fitsIndex_both h1 h2]
  exact Bool.false_ne_true
 have xT: ¬Builtin.List.listTooLong (ay.toArray.size*k.toNat)=true:=by
  rw[qe hlen]
  exact Bool.false_ne_true
 have DE:List.foldl (fun x1 x2=>x1++x2) #[] (List.replicate (if ay.toArray.isEmpty=true then 0 else k.toNat) ay.toArray)=(List.replicate k.toNat ay).flatten.toArray:=by
  have f0: ∀m:Nat,List.foldl (fun x1 x2=>x1++x2) #[] (List.replicate m ay.toArray)=(List.replicate m ay).flatten.toArray:=fun m=>by
   have:=foldl_rep ay m []
   rw[List.nil_append]at this
   exact this
  rw[f0]
  cases ay with
  | nil=>simp
  | cons a r'=>rw[if_neg (by simp)]
 refine wpAny_binaryOp_repeat_ref (T:="list") (U:="int") (by decide) ⟨_,e,rfl⟩ (fun s'=>typeIs_int s' k t) noFill_list_mul F.fills_int_mul F.slot_int_rmul repeat_list F.slot_int_index.lookup
  (call_meets F.slot_int_rmul (typeIs_int s k t) F.entry_int_rmul (F.args_int_rmul_2 _ _) (int___rmul___int_list k t l ay.toArray n)
   ⟨e,rfl,⟨_,e,rfl⟩,call_meets F.slot_list_mul ⟨_,e,rfl⟩ F.entry_list_mul (F.args_list_mul_2 _ _) (AutoListH.list___mul___list_int_3 l ay.toArray n k t LC LB xT) ⟨e,?_⟩⟩)
 rw[DE]
 exact ⟨.ref _,_,I.GK (t':=s.toks) (r.rep k.toNat) (by rw[len_rep,Nat.mul_comm];exact hz),rfl,q _ I.fresh⟩
end
section
variable {prog:Program} {w:World} {A:Around} {E:Value->Shared->Prop} {s:Shared}
end
section
variable {X:Cx}
end
end L2
namespace R_
open PySem PySem.W PySem.Calls PyProof.Rows
theorem kn {P:Params} {h:Heap}: ∀(ns:List Int) (vs:List Value),WellAll P h vs (ns.map WData.int)->IntsAre vs ns:=by
 intro ns
 induction ns with
 | nil=>
  intro vs w
  rw[List.map_nil]at w
  cases w
  exact .nil
 | cons n ns ih=>
  intro vs w
  rw[List.map_cons]at w
  cases w with
  | cons a b=>
   cases a
   exact .cons _ _ (ih _ b)
theorem vB {l:OpenLaw} {n:Nat} (hn:l.most=some n) {P:Params} {h:Heap} {args:List WData} {vals:List Value}
  (Ay:l.row.toRowW.claim.pre args=true) (qf:WellAll P h vals args):
  ∃a vs ns,vals=[Value.ref a]/\args=[WData.list (ns.map WData.int)]/\h.get? a=some { cls:= .type "list",data:= .seq vs.toArray }/\IntsAre vs ns/\ns.length<=n:=by
 have UI:WShape.hasAll [] args [.list .int]=true:=(pre_splitW Ay).1
 have hc:l.pre.holds [] { args:=args }=true:=(pre_splitW Ay).2
 obtain ⟨d,r,rfl,h1,h2⟩:=hasAllW_cons UI
 obtain rfl:=hasAllW_nil h2
 obtain ⟨xs,rfl,h3⟩:=hasW_list h1
 obtain ⟨ns,rfl⟩:=items_int h3
 have hlen:ns.length<=n:=by
  unfold OpenLaw.pre at hc
  have h4:(WTm.not (.lt (.lit (.int (n:Int))) (.len (.arg 0)))).holds [] { args:=[.list (ns.map .int)] }=true:=by
   have h4:=(holds_andW hc).1
   rw[hn]at h4
   exact h4
  have h5:=condW_of h4 (w_not (w_lt w_lit (w_len_list (w_arg rfl))))
  rw[List.length_map]at h5
  refine Nat.le_of_not_lt fun q=>?_
  have q':(n:Int)<((ns.length:Nat):Int):=by omega
  first
   |(rw[decide_eq_true q']at h5;exact absurd h5 (by decide))
   |(simp at h5;omega)
 cases qf with
 | cons w1 w2=>
  cases w2
  cases w1 with
  | list ho xU=>exact ⟨_,_,ns,rfl,rfl,ho,kn ns _ xU,hlen⟩
theorem vC (l:OpenLaw) (args:List WData):l.row.toRowW.claim.post args (.bool true) args=true:=
 postW_of (r:=l.row.toRowW) (X:=(true==true))
  (show WShape.has [] (.bool true) .bool=true by first | rfl | decide | simp[WShape.has,WShape.arms,WShape.armsAll])
  (show (WTm.eq .res (.lit (.bool true))).value [] { args:=args,res:=some (.bool true),after:=args }=some (.bool (true==true)) from w_eq_bool (w_res rfl) w_lit) rfl
theorem qg {l:OpenLaw} {n:Nat} {q:Program} {loose:List Str} {XP:(Str->Option Value)->Heap->Prop} {YP:World->Heap->Prop} {d:DefRec}
  (hn:l.most=some n) (GL:d.params.defaults=[])
  (call: ∀(w:World) (s₀ s₁:Shared) (mg mb:Str->Option Value) (fa:Addr) (o:Obj) (pm cd doc:Value) (a:Addr) (vs:List Value) (ns:List Int),
   Ground q loose [] XP w s₀ mg mb s₁.heap->YP w s₁.heap->
   s₁.heap.get? fa=some o->o.data= .func (docDef d.name d.params d.body d.scope pm cd doc)->s₁.heap.CodeRec cd d.name->mg d.name=some (.ref fa)->
   s₁.heap.get? a=some { cls:= .type "list",data:= .seq vs.toArray }->IntsAre vs ns->ns.length<=n->s₁.gens= #[]->
   codeAny (model l.prog w) callerA (.call (.ref fa) ⟨[.ref a],[]⟩) (fun r s'=>r= .ok (.ret (.bool true))/\OldK s₁.heap s'.heap/\s'.os=s₁.os/\AllBare s'.gens) s₁):
  WalkO q loose XP YP l.row.toRowW d [] (fun f vs=>PySem.call f vs):=by
 intro w s₀ s₁ mg mb G Y fa o pm cd doc dV kV ho hd pZ hD hmg hg args vals as Ay UJ YE qf BY
 obtain rfl:dV= .none:=Dflts.none hD GL
 obtain rfl:kV= .none:=Dflts.noKw hD
 obtain ⟨a,vs,ns,rfl,rfl,DF,hints,hlen⟩:=vB hn Ay qf
 refine enter_call (codeAny_mono (call w s₀ s₁ mg mb fa o pm cd doc a vs ns G Y ho (fd_plain hd) pZ hmg DF hints hlen hg) fun r s' hq=>?_)
 obtain ⟨rfl,h2,h3,h4⟩:=hq
 exact ⟨.inl ⟨.bool true, .bool true,[],rfl,fun _=>rfl, .bool true,vC l _,fun _=>⟨List.Pairwise.nil,fun _ hm=>(nomatch hm)⟩⟩,h2,h3,h4⟩
section
variable {prog:Program} {w:World} {A:Around} {E:Value->Shared->Prop} {s:Shared} {K:Frag}
noncomputable def ledger (h:Heap) (L d:Addr):List (Addr×Obj):=(List.range h.objs.size).filterMap fun a=>if a=L\/a=d then none else (h.get? a).map fun o=>(a,o)
end
end R_
namespace L2
open PySem PySem.Spec PyProof.Rows
theorem nA: ∀{vs:List Value} {ns:List Int},IntsAre vs ns->Vals (ns.map V.int) vs
 | _,_, .nil=> .nil
 | _,_, .cons n t h=> .cons ⟨t,rfl⟩ (nA h)
noncomputable def DG (H:Hp):Prop:= ∀b,H b=none\/ ∃o xs,H b=some (.xm o (.lst xs))
theorem xV {P:Program} {w:World} {K:PySem.W.Frag} {mg mb:Str->Option Value} {CX:xK} {k:Nat} {fa a:Addr} {fd:FuncData} {x:Str} {sp:Sp} {s₁:Shared} {vs:List Value} {ns:List Int}
  (KX:K.In s₁.heap) (JB:s₁.heap.Ns mainGlobals mg) (hb:s₁.heap.Ns builtinsNs mb) (LD: ∀x:Str,x≠"__name__"->mb x=bootBuiltins x) (LF:s₁.heap.NoLimit) (hg:s₁.gens= #[])
  (ha:s₁.heap.get? a=some { cls:= .type "list",data:= .seq vs.toArray }) (hi:IntsAre vs ns) (hl:ns.length<=sizeLine) (hr:fj k callerA)
  (F: ∀base:Heap,K.In base->base.Ns mainGlobals mg->bQ P w K mg base CX k fa fd [x] sp) (GN: ∀(s:Shared) (u:Value),BindsTo s fd ⟨[u],[]⟩ [(x,u)])
  (rE: ∀H:Hp,DG H->aT K H a (ns.map V.int)->sp [.ref a] H (fun v _=>v= .bl true) fun _ _ _=>False)
  (LG: ∀H e s',CX [] H s₁ (fun _ _ _=>False) e s'->False):
  codeAny (model P w) callerA (.call (.ref fa) ⟨[.ref a],[]⟩) (fun r s'=>r= .ok (.ret (.bool true))/\OldK s₁.heap s'.heap/\s'.os=s₁.os/\AllBare s'.gens) s₁:=by
 have rv:=nA hi
 have LH:=hi.length
 -- from an abstract heap in Sa nothing but Al script may be tracked
 have core: ∀H:Hp,DG H->aT K H a (ns.map V.int)->iU P w H s₁.heap->(∀b,H b≠none->b=a)->(H a≠none->K.lookup a=none)->
   codeAny (model P w) callerA (.call (.ref fa) ⟨[.ref a],[]⟩) (fun r s'=>r= .ok (.ret (.bool true))/\OldK s₁.heap s'.heap/\s'.os=s₁.os/\AllBare s'.gens) s₁:=by
  intro H hO hS bh hA hK
  have ug: ∀{b:Addr} {o:Obj},s₁.heap.get? b=some o->H b=none->(oG s₁.heap H).get? b=some o:=fun e n=>xE e n
  have GA: ∀{b:Addr} {o:Obj} {es:Array DictEntry} {ep:Nat},s₁.heap.get? b=some o->o.data= .dict es ep->H b=none:=fun {b o es ep} e d=>by
   cases q:H b with
   | none=>rfl
   | some u=>
    have e':b=a:=hA b (by rw[q];simp)
    subst e'
    rw[ha]at e;cases e
    have d':Data.seq vs.toArray _=Data.dict es ep:=d
    cases d'
  have JC: ∀{b:Addr} {m:Str->Option Value},s₁.heap.Ns b m->(oG s₁.heap H).Ns b m:=fun {b m} ⟨o,es,ep,e,d,r⟩=>⟨o,es,ep,ug e (GA e d),d,r⟩
  have Sb:K.In (oG s₁.heap H):=fun b o e=>ug (KX b o e) (by
   cases q:H b with
   | none=>rfl
   | some u=>
    have e':b=a:=hA b (by rw[q];simp)
    subst e'
    rw[hK (by rw[q];simp)]at e;cases e)
  have hM:Mod K mg (oG s₁.heap H):=⟨Sb,JC JB,⟨mb,JC hb,LD⟩,let ⟨mc,h1,h2⟩:=LF;⟨mc,JC h1,h2⟩⟩
  have e0:An P w K mg (oG s₁.heap H) callerA [] s₁ H:=⟨rfl,hM,fun b o e=>Af e,Nat.le_of_eq (vg _ _),trivial,fun b hb=>absurd (show b∈([]:List Addr) from hb) (by simp),bh, .of_eq hg⟩
  refine codeAny_mono ((F _ Sb (JC JB)).run callerA [] s₁ H ⟨[.ref a],[]⟩ [.ref a] [.ref a] _ _ hr e0 (GN s₁ (.ref a)) (.cons rfl .nil) (rE H hO hS)) fun r s' h=>?_
  cases r with
  | error e=>exact (LG H e s' h).elim
  | ok fl=>
   cases fl with
   | next=>exact False.elim h
   | brk=>exact False.elim h
   | cont=>exact False.elim h
   | ret u=>
    obtain ⟨v,H',os,bare,un,LI,r',q⟩:=h
    have q':v= .bl true:=q
    subst q'
    obtain rfl:u=Value.bool true:=r'
    refine ⟨rfl,OldK.of_keep fun b o e=>?_,os,bare⟩
    cases q:H b with
    | none=>exact un.keep b o e q (by intro z;exact absurd (show b∈([]:List Addr) from z) (by simp)) (by simp)
    | some u=>
     rcases hO b with z | ⟨ob,xs,z⟩
     ·rw[q]at z;cases z
     ·have z2:=un.kJ b ob _ z
      obtain ⟨e1,_⟩:=bh b _ z
      obtain ⟨e2,_⟩:=LI b _ z2
      rw[e]at e1;cases e1
      exact e2
 cases hk:K.lookup a with
 | some o=>
  -- Al script is one of Al xR own objects
  have e:=KX a o hk
  rw[ha]at e
  cases e
  refine core (fun _=>none) (fun _=> .inl rfl) (.inr ⟨_,vs.toArray,_,hk,rfl,rfl,rfl,by rw[List.size_toArray,LH];exact hl,by simpa using rv⟩) (fun b u z=>by have z':(none:Option HO)=some u:=z;cases z') (fun b z=>absurd rfl z) fun z=>absurd rfl z
 | none=>
  refine core (fun b=>if b=a then some (.xm { cls:= .type "list",data:= .seq vs.toArray } (.lst (ns.map V.int))) else none) (fun b=>?_) (.inl (.inr ⟨{ cls:= .type "list",data:= .seq vs.toArray },if_pos rfl⟩)) (fun b u z=>?_) (fun b z=>?_) fun _=>hk
  ·by_cases hb:b=a
   ·exact .inr ⟨_,_,if_pos hb⟩
   ·exact .inl (if_neg hb)
  ·by_cases hb:b=a
   ·have z':=(if_pos hb).symm.trans z
    cases z'
    subst hb
    exact ⟨ha,by rw[List.length_map];exact hl,vs,_,rv,ha⟩
   ·have z':=(if_neg hb).symm.trans z
    cases z'
  ·by_cases hb:b=a
   ·exact hb
   ·exact absurd (if_neg hb) z
end L2
namespace L2
open PySem PySem.Spec PyProof.Rows
noncomputable abbrev Sd {K:PySem.W.Frag} {h:Heap} (_:K.In h):PySem.W.Frag:=K
theorem uh {l:PySem.W.OpenLaw} {n k:Nat} {q:Program} {loose:List Str} {XP:(Str->Option Value)->Heap->Prop} {YP:World->Heap->Prop} {d:DefRec} {K:Params->PySem.W.Frag} {CX:World->xK} {sp:World->Sp} {x:Str}
  (hn:l.most=some n) (Se:n<=sizeLine) (GL:d.params.defaults=[]) (hr:fj k callerA)
  (hY: ∀(w:World) (h:Heap),YP w h->(K w.params).In h)
  (F: ∀(w:World) (mg:Str->Option Value) (fa:Addr) (h:Heap),(K w.params).In h->h.Ns mainGlobals mg->mg d.name=some (.ref fa)->
   ∃fd:FuncData,(∀(s:Shared) (u:Value),BindsTo s fd ⟨[u],[]⟩ [(x,u)])/\
    ∀base:Heap,(K w.params).In base->base.Ns mainGlobals mg->bQ l.prog w (K w.params) mg base (CX w) k fa fd [x] (sp w))
  (rE: ∀(w:World) (H:Hp) (a:Addr) (ns:List Int),ns.length<=n->DG H->aT (K w.params) H a (ns.map V.int)->sp w [.ref a] H (fun v _=>v= .bl true) fun _ _ _=>False)
  (LG: ∀(w:World) (H:Hp) (s:Shared) (e:Value) (s':Shared),CX w [] H s (fun _ _ _=>False) e s'->False):
  PySem.W.WalkO q loose XP YP l.row.toRowW d [] (fun f vs=>PySem.call f vs):=by
 refine R_.qg hn GL fun w s₀ s₁ mg mb fa o pm cd doc a vs ns G Y ho hd pZ hmg DF hints hlen hg=>?_
 have KX:=hY w _ Y
 obtain ⟨fd,hb,hF⟩:=F w mg fa _ KX G.T.g hmg
 exact xV KX G.T.g G.T.b G.T.builtins G.T.nolimit hg DF hints (Nat.le_trans hlen Se) hr hF hb (fun H hO hS=>rE w H a ns hlen hO hS) fun H e s'=>LG w H s₁ e s'
end L2
/- YF UK JD (shape;YG,My.* are Sf):
  My.YH:a structure of Al addresses UL UM Sg names (classes,Fu);My.Txt K t:a structure (Prop) of Al equations over K;
  My.DH:{K} {implicit addresses ..} (e1:nsIn K mainGlobals "law"=some (some (.ref f))) (e2:K.lookup f=some ⟨oc,od, .func (fnOf "law" "law" params body scope dV kV doc pm an cS ct),sl⟩) (e3:codeIn K cS "law"=true) .. : ∃t,My.Txt K t
set_option maxRecDepth 100000 in
set_option maxHeartbeats 0 in
theorem PySem.Challenge.cw_LID_holds : PySem.Challenge.rw_LID.Holds := by
 w_on;o_law;k_head;(case hw=>w_witness2)
 k_fill
 refine L2.uh (l:=PySem.Challenge.rw_LID) (n:=63) (k:=40) (x:="script") (CX:=fun w=> ..) (sp:=fun _=>My.jK) rfl (by decide) rfl ⟨rfl,by decide,by decide⟩ (fun w h Y=>PySem.W.kIn_of Y) ?F ?S ?C
 case F=>
  intro w mg fa h KX G hmg
  have T: ∃t,My.Txt (L2.Sd KX) t:=by
   dsimp only [L2.Sd] -- K UN Sh as «<heap const>w.params» for k_is
   refine' My.DH ?e1 ?e2 ?e3 ..
   (case e1=>PySem.W.k_is) -- in Al order:a name->ay address->ay object->ay parts
   (case e2=>PySem.W.k_is)
   ..
  obtain ⟨t,T⟩:=T
  have e0:=hmg.symm.trans (PySem.W.mg_of KX G T.law)
  cases e0 -- fa is Al Si own address
  exact ⟨_,fun s u=> .of_eq rfl,fun base kb nb=>My.DI T kb nb⟩ -- if «.of_eq rfl» comes YI early:refine' ⟨_,?b,fun base kb nb=>My.DI T kb nb⟩;exact fun s u=> .of_eq rfl
 case S=>exact fun w H a ns hl hO hS=> ..
 case C=>exact ..
(Al tactic k_is has no namespace:write k_is) -/
namespace L2
open PySem PySem.Spec PyProof.Rows
noncomputable def aK (s:Stmt):Arguments:=match s with
 | .FunctionDef _ a _ _ _ _ _ _ _ _=>a
 | _=>{ posonlyargs:=[],args:=[],vararg:=none,kwonlyargs:=[],kw_defaults:=[],kwarg:=none,defaults:=[] }
noncomputable def aJ (s:Stmt):List Stmt:=match s with
 | .FunctionDef _ _ b _ _ _ _ _ _ _=>b
 | _=>[]
noncomputable def aj (s:Stmt):Scope:=match s with
 | .FunctionDef _ _ _ _ _ _ sc _ _ _=>sc
 | _=>{ kind:= .function,names:=[],isGenerator:=false,isCoroutine:=false }
noncomputable abbrev fk:xK:=fun _ _ _ _ _ _=>False
noncomputable abbrev E0:XK:=fun _ _ _=>False
theorem aC {X:Cx}:Passes fk X E0:=fun _ _ _ _ _ _ _ h=>h.elim
structure Fv (K:PySem.W.Frag) (x qual:Str) (st:Stmt) (f:Addr) (fd:FuncData):Prop where
 ex: ∃(oc:Value) (od:Option Addr) (kV doc pm:Value) (an:Option Addr) (cS ct:Value) (BW:Array (Option Value)),
  fd=PySem.W.fnOf x qual (aK st) (aJ st) (aj st) .none kV doc pm an cS ct/\K.lookup f=some ⟨oc,od, .func fd,BW⟩/\PySem.W.codeIn K cS qual=true
 kp:PySem.W.keepIn K (.ref f)=true
section
variable {P:Program} {w:World} {K:PySem.W.Frag} {mg:Str->Option Value} {base:Heap}
theorem Fv.ok {x qual:Str} {st:Stmt} {f:Addr} {fd:FuncData} {N ps:List Str} {k:Nat} {sp:Sp} (F:Fv K x qual st f fd) (S:aL N ps (aj st)) (len: ∀vs H Q E,sp vs H Q E->vs.length=ps.length)
  (xM: ∀(cS:Value) (A:Around) (outer:List Env) (s:Shared) (H:Hp) (vs:List V) (Q:VK) (E:XK),fj k (A.deeper (envOfC qual (aj st) s.heap.objs.size f cS))->sp vs H Q E->
   ∃t,vk (vv fk P w K mg base N qual (aj st) f cS A outer s H E).Jw (aJ st) t/\t { nx:=fun _ H'=>Q .bW H',rt:=Q } (start N vs) H):bQ P w K mg base fk (k+1) f fd ps sp:=by
 obtain ⟨oc,od,kV,doc,pm,an,cS,ct,BW,rfl,lk,pZ⟩:=F.ex
 refine GB lk pZ S len fun A outer s H vs Q E hr rE=>?_
 obtain ⟨t,h,q⟩:=xM cS A outer s H vs Q E hr rE
 exact ⟨t,h.Jw,q⟩
theorem Fv.binds {x qual:Str} {st:Stmt} {f:Addr} {fd:FuncData} {ps:List Str} (F:Fv K x qual st f fd)
  (h: ∀(kV doc pm:Value) (an:Option Addr) (cS ct:Value) (us:List Value),us.length=ps.length->bindArgs (PySem.W.fnOf x qual (aK st) (aJ st) (aj st) .none kV doc pm an cS ct) ⟨us,[]⟩=pure (ps.zip us)):Binds K fd ps []:=by
 obtain ⟨oc,od,kV,doc,pm,an,cS,ct,BW,rfl,lk,pZ⟩:=F.ex
 exact .all (h kV doc pm an cS ct)
theorem aY {x qual:Str} {st:Stmt} {f:Addr} {oc:Value} {od an:Option Addr} {BW:Array (Option Value)} {kV doc pm cS ct:Value} (l:K.lookup f=some ⟨oc,od, .func (PySem.W.fnOf x qual (aK st) (aJ st) (aj st) .none kV doc pm an cS ct),BW⟩)
  (c:PySem.W.codeIn K cS qual=true) (k:PySem.W.keepIn K (.ref f)=true):Fv K x qual st f (PySem.W.fnOf x qual (aK st) (aJ st) (aj st) .none kV doc pm an cS ct):=⟨⟨oc,od,kV,doc,pm,an,cS,ct,BW,rfl,l,c⟩,k⟩
end
theorem ip {A:Around} {k:Nat} (hr:fj k A):A.units+1<cLine:=Nat.lt_of_le_of_lt (Nat.add_le_add_left (by decide:1<=64) _) hr.units
section
variable {X:Cx}
theorem pv (i:Nat) {x:Str} {pos:Pos} (hN:X.N[i]? =some x:=by rfl) (hv:FZ X.env.scope x:=by first | exact Or.inl rfl | exact Or.inr (Or.inl rfl) | exact Or.inr (Or.inr rfl)) (hd:(x==("__debug__":Str))=false:=by decide)
  (pZ:(x==("__classdict__":Str))=false:=by decide):PE X (.Name x pos) (Gd i):=C5 hN hv hd pZ
end
theorem vD {A B:Prop} (h:B):if false=true then A else B:=by
 rw[if_neg Bool.false_ne_true]
 exact h
theorem LJ {A B:Prop} (h:A):if true=true then A else B:=by
 rw[if_pos rfl]
 exact h
theorem cO {c A B:Prop} [Decidable c] (h1:c->A) (h2: ¬c->B):if c then A else B:=by
 by_cases h:c
 ·rw[if_pos h]
  exact h1 h
 ·rw[if_neg h]
  exact h2 h
noncomputable def ah (H H':Hp):Prop:= ∀b o,H b=some o->H' b=some o
theorem ah.refl (H:Hp):ah H H:=fun _ _ h=>h
theorem ah.trans {H H1 H2:Hp} (a:ah H H1) (b:ah H1 H2):ah H H2:=fun c o h=>b c o (a c o h)
theorem ah.free {H H':Hp} (e:ah H H') {l:Addr} (h:H' l=Option.none):H l=Option.none:=by
 cases q:H l with
 | none=>rfl
 | some o=>
  rw[e l o q]at h
  cases h
theorem ah.seq {K:PySem.W.Frag} {H H':Hp} {a:Addr} {xs:List V} (e:ah H H') (h:aT K H a xs):aT K H' a xs:=by
 rcases h with (h | ⟨o,h⟩) | h
 ·exact .inl (.inl (e _ _ h))
 ·exact .inl (.inr ⟨o,e _ _ h⟩)
 ·exact .inr h
end L2
namespace L2
open PySem PySem.Spec PyProof.Rows
noncomputable def gs (env:Env):List (Str×NameKind)->List (Str×Addr)->List (Str×Addr)
 | [],acc=>acc
 |(n,k)::r,acc=>gs env r (if k== .free then (match env.cells.lookup n with | some a=>(n,a)::acc | none=>acc) else acc)
theorem dX {env:Env}: ∀(names:List (Str×NameKind)) (acc:List (Str×Addr)),(∀y∈names,y.2= .free-> ∃c,env.cells.lookup y.1=some c)->
  (forIn names acc fun (x:Str×NameKind) (cs:List (Str×Addr))=>(if (x.2==NameKind.free)=true then do let a <-cellOf env x.1;pure (ForInStep.yield ((x.1,a)::cs)) else pure (ForInStep.yield cs):Sem (ForInStep (List (Str×Addr)))))=pure (gs env names acc)
 | [],acc,_=>rfl
 |(n,k)::r,acc,h=>by
  rw[List.forIn_cons]
  have hr: ∀y∈r,y.2= .free-> ∃c,env.cells.lookup y.1=some c:=fun y hy=>h y (List.mem_cons_of_mem _ hy)
  cases hk:(k==NameKind.free) with
  | false=>
   have e1:gs env ((n,k)::r) acc=gs env r acc:=by
    show gs env r (if (k==NameKind.free)=true then (match env.cells.lookup n with | some a=>(n,a)::acc | none=>acc) else acc)=_
    rw[hk,if_neg Bool.false_ne_true]
   rw[e1, <-dX r acc hr]
   simp only[hk,Bool.false_eq_true,if_false,pure_bind]
  | true=>
   obtain ⟨c,hc⟩:=h (n,k) List.mem_cons_self (by simpa using hk)
   have e1:gs env ((n,k)::r) acc=gs env r ((n,c)::acc):=by
    have vj:env.cells.lookup n=some c:=hc
    show gs env r (if (k==NameKind.free)=true then (match env.cells.lookup n with | some a=>(n,a)::acc | none=>acc) else acc)=_
    rw[hk,vj,if_pos rfl]
   have e2:cellOf env n=pure c:=by
    have vj:env.cells.lookup n=some c:=hc
    unfold cellOf
    rw[vj]
   rw[e1, <-dX r ((n,c)::acc) hr]
   simp only[hk,if_true,e2,pure_bind]
theorem iq {scope:Scope} {env:Env} (h: ∀y∈scope.names,y.2= .free-> ∃c,env.cells.lookup y.1=some c):closureFor scope env=pure (gs env scope.names []):=by
 have e:=dX scope.names [] h
 simp only[closureFor]
 rw[e]
 rfl
theorem jL {env:Env} {x:Str} {c:Addr}: ∀(names:List (Str×NameKind)) (acc:List (Str×Addr)),(∀y d,acc.lookup y=some d->env.cells.lookup y=some d)->(gs env names acc).lookup x=some c->env.cells.lookup x=some c
 | [],acc,ha,h=>ha x c h
 |(n,k)::r,acc,ha,h=>by
  refine jL r _ (fun y d q=>?_) h
  by_cases hk:(k==NameKind.free)=true
  ·rw[if_pos hk]at q
   cases e:env.cells.lookup n with
   | none=>rw[e]at q;exact ha y d q
   | some a=>
    rw[e]at q
    have q':List.lookup y ((n,a)::acc)=some d:=q
    rw[List.lookup_cons]at q'
    cases hy:(y==n) with
    | true=>
     rw[hy]at q'
     have:y=n:=by simpa using hy
     subst this
     rw[e];exact q'
    | false=>rw[hy]at q';exact ha y d q'
  ·rw[if_neg hk]at q;exact ha y d q
theorem qh {env:Env} {x:Str}: ∀(names:List (Str×NameKind)) (acc:List (Str×Addr)),(∃c,acc.lookup x=some c)-> ∃c,(gs env names acc).lookup x=some c
 | [],acc,h=>h
 |(n,k)::r,acc,⟨c,hc⟩=>by
  refine qh r _ ?_
  by_cases hk:(k==NameKind.free)=true
  ·rw[if_pos hk]
   cases e:env.cells.lookup n with
   | none=>exact ⟨c,hc⟩
   | some a=>
    show ∃c,List.lookup x ((n,a)::acc)=some c
    rw[List.lookup_cons]
    cases hy:(x==n) with
    | true=>exact ⟨a,rfl⟩
    | false=>exact ⟨c,hc⟩
  ·rw[if_neg hk];exact ⟨c,hc⟩
theorem kZ {env:Env} {x:Str}: ∀(names:List (Str×NameKind)) (acc:List (Str×Addr)),(∀y∈names,y.2= .free-> ∃c,env.cells.lookup y.1=some c)->names.lookup x=some .free-> ∃c,(gs env names acc).lookup x=some c
 | [],acc,_,h=>by simp at h
 |(n,k)::r,acc,hf,h=>by
  have hr: ∀y∈r,y.2= .free-> ∃c,env.cells.lookup y.1=some c:=fun y hy=>hf y (List.mem_cons_of_mem _ hy)
  rw[List.lookup_cons]at h
  cases hy:(x==n) with
  | true=>
   rw[hy]at h
   have hk:k= .free:=Option.some.inj h
   subst hk
   have hx:x=n:=by simpa using hy
   subst hx
   obtain ⟨c,hc⟩:=hf (x, .free) List.mem_cons_self rfl
   have vj:env.cells.lookup x=some c:=hc
   refine qh r _ ⟨c,?_⟩
   rw[if_pos (show (NameKind.free==NameKind.free)=true by decide),vj]
   show List.lookup x ((x,c)::acc)=some c
   rw[List.lookup_cons]
   simp
  | false=>
   rw[hy]at h
   exact kZ r _ hr h
theorem i8 {env:Env}: ∀{names:List (Str×NameKind)} {x:Str},names.lookup x=some .free->
  ((names.map fun (n,k)=>if (k==NameKind.free&&env.scope.kind== .function&&env.kindOf n==some .cell) then (n,NameKind.cell) else (n,k)).lookup x=some .cell\/
   (names.map fun (n,k)=>if (k==NameKind.free&&env.scope.kind== .function&&env.kindOf n==some .cell) then (n,NameKind.cell) else (n,k)).lookup x=some .free)
 | [],_,h=>by simp at h
 |(n,k)::r,x,h=>by
  have ih:= @i8 env r x
  show (List.lookup x ((if (k==NameKind.free&&env.scope.kind== .function&&env.kindOf n==some .cell)=true then (n,NameKind.cell) else (n,k))::_)=_\/List.lookup x ((if (k==NameKind.free&&env.scope.kind== .function&&env.kindOf n==some .cell)=true then (n,NameKind.cell) else (n,k))::_)=_)
  cases hx:x==n with
  | true=>
   simp only[List.lookup_cons,hx]at h
   cases h
   by_cases hc:((NameKind.free==NameKind.free)&&env.scope.kind== .function&&env.kindOf n==some .cell)=true
   ·rw[if_pos hc];simp[List.lookup_cons,hx]
   ·rw[if_neg hc];simp[List.lookup_cons,hx]
  | false=>
   simp only[List.lookup_cons,hx]at h
   by_cases hc:(k==NameKind.free&&env.scope.kind== .function&&env.kindOf n==some .cell)=true
   ·rw[if_pos hc];simp only[List.lookup_cons,hx];exact ih h
   ·rw[if_neg hc];simp only[List.lookup_cons,hx];exact ih h
theorem i9 {env:Env}: ∀{names:List (Str×NameKind)} {x:Str},(∀y∈names,y.2≠ .cell)->
  ((names.map fun (n,k)=>if (k==NameKind.free&&env.scope.kind== .function&&env.kindOf n==some .cell) then (n,NameKind.cell) else (n,k)).lookup x=some .cell\/
   (names.map fun (n,k)=>if (k==NameKind.free&&env.scope.kind== .function&&env.kindOf n==some .cell) then (n,NameKind.cell) else (n,k)).lookup x=some .free)->names.lookup x=some .free
 | [],_,_,h=>by simp at h
 |(n,k)::r,x,hn,h=>by
  have ih:= @i9 env r x (fun y hy=>hn y (List.mem_cons_of_mem _ hy))
  have hk:=hn (n,k) List.mem_cons_self
  have h':(List.lookup x ((if (k==NameKind.free&&env.scope.kind== .function&&env.kindOf n==some .cell)=true then (n,NameKind.cell) else (n,k))::(r.map fun (n,k)=>if (k==NameKind.free&&env.scope.kind== .function&&env.kindOf n==some .cell) then (n,NameKind.cell) else (n,k)))=some .cell\/List.lookup x ((if (k==NameKind.free&&env.scope.kind== .function&&env.kindOf n==some .cell)=true then (n,NameKind.cell) else (n,k))::(r.map fun (n,k)=>if (k==NameKind.free&&env.scope.kind== .function&&env.kindOf n==some .cell) then (n,NameKind.cell) else (n,k)))=some .free):=h
  cases hx:x==n with
  | true=>
   rw[List.lookup_cons,hx]
   by_cases hc:(k==NameKind.free&&env.scope.kind== .function&&env.kindOf n==some .cell)=true
   ·have:(k==NameKind.free)=true:=by
     rw[Bool.and_eq_true,Bool.and_eq_true]at hc;exact hc.1.1
    have UO:k= .free:=by simpa using this
    rw[UO]
   ·rw[if_neg hc]at h'
    simp only[List.lookup_cons,hx]at h'
    rcases h' with h' | h'
    ·exact absurd (Option.some.inj h') hk
    ·exact h'
  | false=>
   rw[List.lookup_cons,hx]
   by_cases hc:(k==NameKind.free&&env.scope.kind== .function&&env.kindOf n==some .cell)=true
   ·rw[if_pos hc]at h';simp only[List.lookup_cons,hx]at h';exact ih h'
   ·rw[if_neg hc]at h';simp only[List.lookup_cons,hx]at h';exact ih h'
noncomputable abbrev zN:Value->Shared->Prop:=fun _ _=>False
theorem oT {prog:Program} {w:World} {A:Around} {R:Result->Shared->Prop} {s:Shared} {elt target iter:Expr} {ifs:List Expr} {scope:Scope} {pos:Pos} {it acc:Value} {env:Env} (I:Nat->Shared->Prop)
  (turn: ∀n s,I n s->wpAny (model prog w) A (pyNext it) (fun r s₁=>match r with
   | none=>R (.ok .next) s₁
   | some v=>wpAny (model prog w) A (letOwnedTupleGo target it v) (fun _ Sj=>wpAny (model prog w) A (assign target env v) (fun _ s₂=>
     wpAny (model prog w) A (forIn ifs true fun c r=>if r=true then do let ok <-isTrue c env (eval c env);pure (ForInStep.yield ok) else pure (ForInStep.yield r)) (fun ok s₃=>
      if ok=true then wpAny (model prog w) A (eval elt env) (fun x s₄=>
       wpAny (model prog w) A (call (.builtin "list.append") [acc,x]) (fun _ s₅=> ∃m,m<n/\I m s₅) zN s₄) zN s₃
      else ∃m,m<n/\I m s₃) zN s₂) zN Sj) zN s₁) zN s)
  (n:Nat) (h:I n s):codeAny (model prog w) A (.compLoop (.ListComp elt [⟨target,iter,ifs,0⟩] scope pos) 0 it acc env) R s:=by
 refine codeAny_loop rfl I (fun n s hI=>?_) n h
 show wpAny _ A ((compTurn (.ListComp elt [⟨target,iter,ifs,0⟩] scope pos) 0 it acc env).onRaise (fun x=>do noteFrame x env;theTreesLotGoes x)) _ _ s
 refine wpAny_noted ?_
 rw[compTurn_list]
 have no: ∀{F:Value->Shared->Prop} (e:Value) (s':Shared),zN e s'->F e s':=fun _ _ h=>h.elim
 refine wpAny_bind (wpAny_standAt (wpAny_bind (wpAny_mono (turn n s hI) (fun r s₁ h₁=>?_) no)))
 cases r with
 | none=>exact wpAny_pure h₁
 | some v=>
  refine wpAny_bind (wpAny_mono h₁ (fun _ Sj UP=>?_) no)
  refine wpAny_bind (wpAny_mono UP (fun _ s₂ h₂=>wpAny_bind (wpAny_mono h₂ (fun ok s₃ h₃=>?_) no)) no)
  cases ok with
  | false=>exact wpAny_pure ⟨rfl,h₃⟩
  | true=>
   exact wpAny_bind (wpAny_bind (wpAny_mono h₃ (fun x s₄ h₄=>wpAny_bind (wpAny_mono h₄ (fun _ s₅ h₅=>wpAny_pure (wpAny_pure ⟨rfl,h₅⟩)) no)) no))
noncomputable def bD (X:Cx) (scope:Scope) (C:Addr) (Nc:List Str) (s:Shared) (H:Hp) (fp:List Addr):Cx where
 prog:=X.prog
 w:=X.w
 K:=X.K
 mg:=X.mg
 base:=X.base
 A:=X.A
 N:=Nc
 s₀:=s
 H₀:=H
 env:=compEnvC scope (gs X.env scope.names []) C X.env
 outer:=X.stack
 stack:=X.stack
 ex:=fp
 fn:=fun _=>false
 calm:=X.calm
 pn:=[]
 xe:=zN
noncomputable def ij (X:Cx) (scope:Scope):List Str->List (Option Nat)->Prop
 | [],[]=>True
 | _::ys,none::os=>ij X scope ys os
 | y::ys,some j::os=>(X.N[j]? =some y/\scope.names.lookup y=some .free/\(X.env.kindOf y=some .cell\/X.env.kindOf y=some .free))/\ij X scope ys os
 | _,_=>False
noncomputable def i_ (σ:St) (ix:List (Option Nat)):St:=ix.map fun o=>match o with | none=>none | some j=>(σ[j]?).getD none
noncomputable def Wk:St->St->Prop
 | [],[]=>True
 | none::a,_::b=>Wk a b
 | some v::a,w::b=>w=some v/\Wk a b
 | _,_=>False
theorem Wk.len: ∀{a b:St},Wk a b->a.length=b.length
 | [],[],_=>rfl
 | none::a,_::b,h=>congrArg (· +1) (Wk.len (a:=a) (b:=b) h)
 | some _::a,_::b,h=>congrArg (· +1) (Wk.len (a:=a) (b:=b) h.2)
theorem Wk.get: ∀{a b:St} {i:Nat} {v:V},Wk a b->a[i]? =some (some v)->b[i]? =some (some v)
 | [],[],i,v,_,h=>by simp at h
 | none::a,x::b,0,v,_,h=>by simp at h
 | none::a,x::b,i+1,v,k,h=>by
  have:=Wk.get (a:=a) (b:=b) (i:=i) (v:=v) k (by simpa using h)
  simpa using this
 | some y::a,x::b,0,v,k,h=>by
  have e:y=v:=by simpa using h
  subst e
  simp[k.1]
 | some y::a,x::b,i+1,v,k,h=>by
  have:=Wk.get (a:=a) (b:=b) (i:=i) (v:=v) k.2 (by simpa using h)
  simpa using this
theorem ij.len {X:Cx} {scope:Scope}: ∀{N:List Str} {ix:List (Option Nat)},ij X scope N ix->ix.length=N.length
 | [],[],_=>rfl
 | _::ys,none::os,h=>congrArg (· +1) (ij.len (N:=ys) (ix:=os) h)
 | _::ys,some _::os,h=>congrArg (· +1) (ij.len (N:=ys) (ix:=os) h.2)
theorem ij.get {X:Cx} {scope:Scope}: ∀{N:List Str} {ix:List (Option Nat)} {i j:Nat},ij X scope N ix->ix[i]? =some (some j)-> ∃y,N[i]? =some y/\X.N[j]? =some y/\scope.names.lookup y=some .free/\(X.env.kindOf y=some .cell\/X.env.kindOf y=some .free)
 | [],[],i,j,_,h=>by simp at h
 | y::ys,none::os,0,j,_,h=>by simp at h
 | y::ys,none::os,i+1,j,k,h=>by
  obtain ⟨z,h1,h2⟩:=ij.get (N:=ys) (ix:=os) (i:=i) (j:=j) k (by simpa using h)
  exact ⟨z,by simpa using h1,h2⟩
 | y::ys,some j'::os,0,j,k,h=>by
  have e:j'=j:=by simpa using h
  subst e
  exact ⟨y,by simp,k.1⟩
 | y::ys,some j'::os,i+1,j,k,h=>by
  obtain ⟨z,h1,h2⟩:=ij.get (N:=ys) (ix:=os) (i:=i) (j:=j) k.2 (by simpa using h)
  exact ⟨z,by simpa using h1,h2⟩
theorem vE {σ:St} {ix:List (Option Nat)} {i:Nat} {v:V} (h:(i_ σ ix)[i]? =some (some v)): ∃j,ix[i]? =some (some j)/\σ[j]? =some (some v):=by
 unfold i_ at h
 rw[List.getElem?_map]at h
 cases e:ix[i]? with
 | none=>rw[e]at h;cases h
 | some o=>
  rw[e]at h
  cases o with
  | none=>cases h
  | some j=>
   refine ⟨j,rfl,?_⟩
   have h':some ((σ[j]?).getD none)=some (some v):=h
   cases q:σ[j]? with
   | none=>rw[q]at h';cases h'
   | some z=>rw[q]at h';cases h';rfl
end L2
namespace L2
open PySem PySem.Spec PyProof.Rows
theorem rW {X:Cx} {pins:List (Addr×Obj)} {σ:St} {H:Hp} {s:Shared} (I:Inv X pins σ H s) {scope:Scope} {Nc:List Str} {ix:List (Option Nat)} (xp:ij X scope Nc ix) (ft: ∀y∈scope.names,y.2≠ .cell)
  (gj:scope.kind= .function) (oU: ∀y∈scope.names,y.2= .free->X.env.kindOf y.1=some .cell\/X.env.kindOf y.1=some .free) {fp:List Addr} (hf: ∀b∈fp,km X pins H b) (GO: ∀b∈fp, ∃o,s.heap.get? b=some o)
  {C:Addr} {h':Heap} {t':Nat} {m0:Str->Option Value} (hC:s.heap.objs.size<=C) (JB:h'.Ns C m0) (k: ∀b o,s.heap.get? b=some o->h'.get? b=some o):
  Inv (bD X scope C Nc s H fp) [] (i_ σ ix) H { s with heap:=h',toks:=t' }:=by
 have Fw: ∀y∈scope.names,y.2= .free-> ∃c,X.env.cells.lookup y.1=some c:=fun y hy e=>I.ok.has y.1 (oU y hy e)
 have ja: ∀{x:Str} {c:Addr},(gs X.env scope.names []).lookup x=some c->X.env.cells.lookup x=some c:=fun {x c} e=>jL scope.names [] (fun y d q=>by simp at q) e
 refine ⟨⟨I.ok.mod,gj,I.ok.glob,I.ok.blt,hC,fun x y c h1 h2=>I.ok.inj x y c (ja h1) (ja h2),fun x hx=>?_,fun x c h=>?_,I.ok.hd,I.ok.frames, .inl rfl,fun b hb=>?_,I.bs,Nat.le_trans I.ok.BJ I.sz,fun b o e hb=>?_,fun b hb hs=>?_,I.stack,I.t5⟩,
  rfl,I.bare,Un.kept k,⟨m0,JB,fun i x v h1 h2 h3=>?_⟩,fun x c e=>?_,I.bh.fresh hC,fun x c e=>I.gB x c (ja e),fun p hp=>absurd (show p∈([]:List (Addr×Obj)) from hp) (by simp),I.bh.kept k,?_⟩
 ·have JE:scope.names.lookup x=some .free:=i9 ft hx
  exact kZ scope.names [] Fw JE
 ·exact absurd (show false=true from h) (by decide)
 ·refine ⟨?_,fun x c e=>(hf b hb).2.2.2.2.1 x c (ja e)⟩
  obtain ⟨o,ho⟩:=GO b hb
  exact Nat.ne_of_lt (Nat.lt_of_lt_of_le (Heap.lt_size ho) hC)
 ·rcases (hf b hb).2.2.2.1 with z | z
  ·exact I.ok.xF b o e z
  ·exact absurd (Nat.lt_of_lt_of_le (Heap.lt_size e) (Nat.le_trans I.ok.BJ z)) (Nat.lt_irrefl _)
 ·rcases List.mem_cons.mp (I.kL b hs) with z | z
  ·exact (hf b hb).2.1 z
  ·exact (hf b hb).2.2.1 z
 ·obtain ⟨j,e1,e2⟩:=vE h2
  obtain ⟨y,y1,y2,y3,y4⟩:=xp.get e1
  have Sk:Nc[i]? =some x:=h1
  rw[y1]at Sk
  cases Sk
  obtain ⟨m,hn,hl⟩:=I.loc
  have hv:FZ X.env.scope x:=by
   rcases y4 with z | z
   ·exact .inr (.inl z)
   ·exact .inr (.inr z)
  obtain ⟨u,r,l⟩:=hl j x v y2 e2 hv
  refine ⟨u,r, .inr ⟨i8 y3,?_⟩⟩
  rcases l with ⟨l,_⟩ | ⟨_,c,hc,q⟩
  ·rcases y4 with z | z
   ·rw[z]at l;cases l
   ·rw[z]at l;cases l
  ·obtain ⟨c',vj⟩:=kZ scope.names [] Fw y3
   have e:=ja vj
   rw[hc]at e
   cases e
   obtain ⟨o,ho,hd⟩:=q
   exact ⟨c,vj,o,k _ _ ho,hd⟩
 ·obtain ⟨v,o,ho,hd⟩:=I.cell x c (ja e)
  exact ⟨v,o,k _ _ ho,hd⟩
 ·show (i_ σ ix).length=Nc.length
  unfold i_
  rw[List.length_map]
  exact xp.len
theorem vF {X:Cx} {pins t6:List (Addr×Obj)} {σ σ':St} {H H':Hp} {s s':Shared} (I:Inv X pins σ H s) {scope:Scope} {Nc:List Str} {fp:List Addr} {C D:Addr} (J:Inv (bD X scope C Nc s H fp) t6 σ' H' s')
  (hf: ∀b∈fp,km X pins H b) (hD:s.heap.objs.size<=D) (hC:s.heap.objs.size<=C) (DJ:D≠C) {ay:List Value} {n:Nat} {acc:List V} (eD:s'.heap.get? D=some { cls:= .type "list",data:= .seq ay.toArray n }) (r:Vals acc ay)
  (hz:acc.length<=sizeLine) (nD:H' D=none) {oC:Obj} (eC:s'.heap.get? C=some oC) (dC: ∀v,oC.data≠ .cell v):Inv X (pins++[(C,oC)]) σ (upd H' D (.lst acc)) s':=by
 have lt: ∀b o,s.heap.get? b=some o->b≠D:=fun b o e=>Nat.ne_of_lt (Nat.lt_of_lt_of_le (Heap.lt_size e) hD)
 have U:Un (tZ X.stack) fp H H' s.heap s'.heap:=J.base
 have U':Un (tZ X.stack) fp H (upd H' D (.lst acc)) s.heap s'.heap:=
  ⟨U.keep,U.slot,fun b o e n hx=>by rw[aq (lt b o e)];exact U.free b o e n hx,U.there,fun b xs e=>by rw[aq (ak (U.jH b xs e) nD)];exact U.jH b xs e,
   fun b o u e=>by rw[aq (ak (U.kJ b o u e) nD)];exact U.kJ b o u e,fun b ps e=>by
    obtain ⟨more,q⟩:=U.oF b ps e
    exact ⟨more,by rw[aq (ak q nD)];exact q⟩⟩
 have bh:iU X.prog X.w (upd H' D (.lst acc)) s'.heap:=fun b u e=>by
  by_cases hb:b=D
  ·subst hb
   rw[ae]at e;cases e
   exact ⟨hz,ay,n,r,eD⟩
  ·rw[aq hb]at e
   exact (J.bh b u e).pX (fun c v _ q=>q) (fun c q=>by rw[aq (ak q nD)];exact q) fun c xs q=>by rw[aq (ak q nD)];exact q
 have I':Inv X pins σ (upd H' D (.lst acc)) s':=I.Gb (ch:=fp) J.os U' bh J.bare fun b hb=>by
  obtain ⟨_,h1,_,h2,h3,h4⟩:=hf b hb
  exact ⟨h2,h1,h3,h4⟩
 refine I'.iW fun p hp=>?_
 rcases List.mem_append.mp hp with z | z
 ·exact I'.pin p (List.mem_append_right _ z)
 ·have e:p=(C,oC):=List.mem_singleton.mp z
  subst e
  refine ⟨eC,?_,Nat.ne_of_gt (Nat.lt_of_lt_of_le I.lt hC),I.C2 hC,dC⟩
  rw[aq (Ne.symm DJ)]
  exact J.free
noncomputable def PF (Y:Cx) (ifs:List Expr) (tc:TT):Prop:=
 ∀(pins:List (Addr×Obj)) (s:Shared) (σ:St) (H:Hp) (Q:Bool->Hp->Prop),Inv Y pins σ H s->tc σ H Q->
  wpAny (model Y.prog Y.w) Y.A (forIn ifs true fun c r=>if r=true then do let ok <-isTrue c Y.env (eval c Y.env);pure (ForInStep.yield ok) else pure (ForInStep.yield r)) (TP Y pins σ Q) Y.xe s
noncomputable def DK:TT:=fun _ H Q=>Q true H
theorem jM {Y:Cx}:PF Y [] DK:=fun _ _ _ H _ I h=>wpAny_tests_nil ⟨H,I,h⟩
theorem jN {Y:Cx} {c:Expr} {tc:TT} (h:PT Y c tc):PF Y [c] tc:=fun pins s σ H Q I hw=>wpAny_tests_one (h pins s σ H Q I hw)
noncomputable def jb (J:It) (σc:St) (g:TG) (tc:TT) (te:TE) (Q:VK) (H1:Hp):Prop:=
 ∃W:Nat->Nat->List V->Hp->Prop,(∃m,W 0 m [] H1)/\ ∀i m acc H,W i m acc H->acc.length<sizeLine/\
 ((J.stop i H/\ ∀D,H D=none->Q (.ref D) (upd H D (.lst acc)))\/
  (J.go i H/\ ∀x H',J.ua i H x H'->g x σc H' fun σ2 H2=>Wk σc σ2/\tc σ2 H2 fun b H3=>if b=true then te σ2 H3 fun v H4=> ∃m',m'<m/\W (i+1) m' (acc++[v]) H4 else ∃m',m'<m/\W (i+1) m' acc H3))
noncomputable def qi (wi:TI) (ix:List (Option Nat)) (g:TG) (tc:TT) (te:TE):TE:=fun σ H Q=>wi σ H fun J H1=>jb J (i_ σ ix) g tc te Q H1
theorem nB {X:Cx} {tg iter elt:Expr} {ifs:List Expr} {scope:Scope} {pos:Pos} {wi:TI} {g:TG} {tc:TT} {te:TE} {Nc:List Str} {ix:List (Option Nat)} (hi:PI X tg iter wi) (ir:X.calm=true) (xp:ij X scope Nc ix)
  (ft: ∀y∈scope.names,y.2≠ .cell) (gj:scope.kind= .function) (oU: ∀y∈scope.names,y.2= .free->X.env.kindOf y.1=some .cell\/X.env.kindOf y.1=some .free)
  (hG: ∀C s H fp,PG (bD X scope C Nc s H fp) tg g) (hT: ∀C s H fp,PF (bD X scope C Nc s H fp) ifs tc) (hE: ∀C s H fp,PE (bD X scope C Nc s H fp) elt te)
  {pins:List (Addr×Obj)} {s:Shared} {σ:St} {H:Hp} {Q:VK} (I:Inv X pins σ H s) (h:qi wi ix g tc te σ H Q) {RR:Value->Addr->Result->Shared->Prop}
  (UQ: ∀(D C:Addr) (oC:Obj) (m:Str->Option Value) (H':Hp) (s':Shared),s'.heap.get? C=some oC->s'.heap.Ns C m->km X pins H' C->Inv X (pins++[(C,oC)]) σ H' s'->Q (.ref D) H'->RR (.ref D) C (.ok .next) s'):
  wpAny (model X.prog X.w) X.A (eval iter X.env) (fun v s1=>wpAny (model X.prog X.w) X.A (pyIter v) (fun it s2=>wpAny (model X.prog X.w) X.A (newList []) (fun acc s3=>
   wpAny (model X.prog X.w) X.A (newFunctionEnv scope X.env.globals (gs X.env scope.names []) [] X.env.qual none .none (some X.env)) (fun GP s4=>
    codeAny (model X.prog X.w) X.A (.compStart (.ListComp elt [⟨tg,iter,ifs,0⟩] scope pos) 0 it acc { GP with scope:=relabel scope X.env }) (RR acc GP.locals) s4) X.xe s3) X.xe s2) X.xe s1) X.xe s:=by
 refine bU (hi pins s σ H _ I h) fun v s1 h1=>bU h1 fun Le s2 h2=>?_
 obtain ⟨it,fp,tn,J,H2,e,I2,T,jE,f2,W,⟨m0,w0⟩,turn⟩:=h2
 subst e
 refine wpAny_newObj_type (wpAny_newFunctionEnv ft (by intro y hy;simp at hy) (fun h₁ DL Az=>?_) gj)
 dsimp only at DL Az ⊢
 generalize LK:s2.heap.push { cls:= .type "list",dict:=none,data:= .seq ([]:List Value).toArray }=P2 at DL Az ⊢
 have hC:P2.objs.size=s2.heap.objs.size+1:=by rw[<-LK,Heap.size_push]
 have DJ:s2.heap.objs.size≠P2.objs.size:=by rw[hC];exact Nat.ne_of_lt (Nat.lt_succ_self _)
 have DM:s2.heap.objs.size<=P2.objs.size:=by rw[hC];exact Nat.le_succ _
 have C4: ∀b,b<s2.heap.objs.size->b≠P2.objs.size:=fun b hb=>by rw[hC];exact Nat.ne_of_lt (Nat.lt_succ_of_lt hb)
 have old: ∀b o,s2.heap.get? b=some o->h₁.get? b=some o:=fun b o e=>Az.extBut b o (C4 b (Heap.lt_size e)) (Heap.get?_push_of_some _ (LK▸Heap.get?_push_of_some _ e))
 have rX:h₁.get? s2.heap.objs.size=some { cls:= .type "list",data:= .seq ([]:List Value).toArray }:=Az.extBut _ _ DJ (Heap.get?_push_of_some _ (LK▸Heap.get?_push_size _ rfl))
 have Sl:tn 0 h₁:=T.keep 0 _ _ jE fun b _ o e=>old b o e
 have GO: ∀b∈fp, ∃o,s2.heap.get? b=some o:=fun b hb=>let ⟨o,e,_⟩:=T.obj 0 _ jE b hb;⟨o,e⟩
 have Sm: ∀b∈fp,s2.heap.objs.size≠b:=fun b hb=>let ⟨o,e⟩:=GO b hb;Nat.ne_of_gt (Heap.lt_size e)
 have IY:=rW I2 xp ft gj oU f2 GO (t':=s2.toks+([]:List (Str×Value)).length) DM DL old
 have LL: ∀b,s2.heap.objs.size<=b->b∉tZ X.stack:=fun b hb hs=>by
  rcases List.mem_cons.mp (I2.kL b hs) with z | z
  ·exact absurd (Nat.lt_of_lt_of_le I2.lt hb) (by rw[z];exact Nat.lt_irrefl _)
  ·exact I2.C2 hb z
 have ja: ∀{x:Str} {c:Addr},(gs X.env scope.names []).lookup x=some c->X.env.cells.lookup x=some c:=fun {x c} e=>jL scope.names [] (fun y d q=>by simp at q) e
 have GQ: ∀x c,(gs X.env scope.names []).lookup x=some c->c≠s2.heap.objs.size:=fun x c e z=>by
  obtain ⟨v,q⟩:=I2.cell x c (ja e)
  exact absurd (q.lt) (by rw[z];exact Nat.lt_irrefl _)
 have fY: ∀{pl:List (Addr×Obj)} {H':Hp},(∀p∈pl,p.1=s2.heap.objs.size)->(∀b∈fp,H' b=none)-> ∀b∈fp,km (bD X scope P2.objs.size Nc s2 H2 fp) pl H' b:=fun {pl H'} ig hn b hb=>by
  refine ⟨hn b hb,?_,?_, .inl hb,fun x c e=>(f2 b hb).2.2.2.2.1 x c (ja e),fun p hp=>?_⟩
  ·obtain ⟨o,e⟩:=GO b hb
   exact C4 b (Heap.lt_size e)
  ·intro hs
   rcases List.mem_cons.mp (I2.kL b hs) with z | z
   ·exact (f2 b hb).2.1 z
   ·exact (f2 b hb).2.2.1 z
  ·rw[ig p hp]
   exact Sm b hb
 have loop: ∀s₃:Shared,s₃={ s2 with heap:=h₁,toks:=s2.toks+([]:List (Str×Value)).length }->
   codeAny (model X.prog X.w) X.A (.compLoop (.ListComp elt [⟨tg,iter,ifs,0⟩] scope pos) 0 (.ref it) (.ref s2.heap.objs.size) (compEnvC scope (gs X.env scope.names []) P2.objs.size X.env)) (RR (.ref s2.heap.objs.size) P2.objs.size) s₃:=by
  rintro s₃ rfl
  refine oT (fun n s'=> ∃i acc ay nn H',Inv (bD X scope P2.objs.size Nc s2 H2 fp) [] (i_ σ ix) H' s'/\tn i s'.heap/\(∀b∈fp,H' b=none)/\
   s'.heap.get? s2.heap.objs.size=some { cls:= .type "list",data:= .seq (ay:List Value).toArray nn }/\Vals acc ay/\H' s2.heap.objs.size=none/\W i n acc H') ?_ m0
   ⟨0,[],[],0,H2,IY,Sl,fun b hb=>(f2 b hb).1,rX, .nil,I2.bh.fresh (Nat.le_refl _),w0⟩
  rintro n s3 ⟨i,acc,ay,nn,H3,I3,Gr,Gs,eD,rv,nD,w3⟩
  obtain ⟨hz,alt⟩:=turn i n acc H3 w3
  have IP:Inv (bD X scope P2.objs.size Nc s2 H2 fp) [(s2.heap.objs.size,{ cls:= .type "list",data:= .seq ay.toArray nn })] (i_ σ ix) H3 s3:=I3.iW fun p hp=>by
   have e:p=(s2.heap.objs.size,_):=List.mem_singleton.mp hp
   subst e
   refine ⟨eD,nD,DJ,LL _ (Nat.le_refl _),fun v z=>?_⟩
   have z':Data.seq ay.toArray nn=Data.cell v:=z
   cases z'
  have ig: ∀p∈[(s2.heap.objs.size,({ cls:= .type "list",data:= .seq ay.toArray nn }:Obj))],p.1=s2.heap.objs.size:=fun p hp=>by
   have e:p=(s2.heap.objs.size,_):=List.mem_singleton.mp hp
   rw[e]
  rcases alt with ⟨stop,fin⟩ | ⟨go,step⟩
  ·refine bU (T.done (bD X scope P2.objs.size Nc s2 H2 fp) rfl rfl rfl ir i _ s3 _ H3 zN IP (fY ig Gs) Gr stop) fun r s4 ⟨hr,I4⟩=>?_
   subst hr
   obtain ⟨m,hn,_⟩:=id I4.loc
   obtain ⟨oC,es,ep,eC,dC,_⟩:=id hn
   have UR:=(I4.pin (s2.heap.objs.size,_) (List.mem_append_right _ (List.mem_singleton.mpr rfl))).1
   have LM:=fin _ nD
   refine UQ _ _ oC m _ s4 eC hn ?_ (vF I2 I4 f2 (Nat.le_refl _) DM DJ UR rv (Nat.le_of_lt hz) nD eC fun v z=>?_) LM
   ·refine I2.iZ DM ?_
    rw[aq (Ne.symm DJ)]
    exact I4.free
   ·rw[dC]at z;cases z
  ·refine bU (T.item (bD X scope P2.objs.size Nc s2 H2 fp) rfl rfl rfl ir i _ s3 _ H3 zN IP (fY ig Gs) Gr go) fun r s4 ⟨u,hr,h4⟩=>?_
   subst hr
   refine bU h4 fun _ s5 ⟨x,H5,I5,r5,y5,Di,Lh⟩=>?_
   have Li:=I5.pinned (fY ig Lh) (T.obj _ _ Di)
   refine bU (hG _ s2 H2 fp _ s5 _ H5 x u _ Li r5 (step x H5 y5)) fun _ s6 ⟨σ6,H6,I6,wk,q6⟩=>?_
   refine bU (hT _ s2 H2 fp _ s6 σ6 H6 _ I6 q6) fun b s7 ⟨H7,I7,q7⟩=>?_
   have again: ∀{H9:Hp} {s9:Shared} {m':Nat},Inv (bD X scope P2.objs.size Nc s2 H2 fp) ([(s2.heap.objs.size,({ cls:= .type "list",data:= .seq ay.toArray nn }:Obj))]++kQ fp s5.heap) σ6 H9 s9->
     (s9.heap.get? s2.heap.objs.size=some { cls:= .type "list",data:= .seq ay.toArray nn }/\H9 s2.heap.objs.size=none)/\tn (i+1) s9.heap/\(∀b∈fp,H9 b=none)/\Inv (bD X scope P2.objs.size Nc s2 H2 fp) [] (i_ σ ix) H9 s9:=fun {H9 s9 m'} I9=>by
    have pD:=I9.pin (s2.heap.objs.size,_) (List.mem_append_right _ (List.mem_append_left _ (List.mem_singleton.mpr rfl)))
    refine ⟨⟨pD.1,pD.2.1⟩,T.keep _ _ _ Di fun b hb o e=>(I9.pin (b,o) (List.mem_append_right _ (List.mem_append_right _ (fP hb e)))).1,fun b hb=>?_,?_⟩
    ·obtain ⟨o,e,d⟩:=T.obj _ _ Di b hb
     exact (I9.pin (b,o) (List.mem_append_right _ (List.mem_append_right _ (fP hb e)))).2.1
    ·exact (I9.weak wk.len fun i v e=>wk.get e).iW fun p hp=>absurd hp (by simp)
   cases b with
   | false=>
    rw[if_neg Bool.false_ne_true]at q7 ⊢
    obtain ⟨m',hm,w7⟩:=q7
    obtain ⟨⟨e7,n7⟩,t7,f7,J7⟩:=again (m':=0) I7
    exact ⟨m',hm,i+1,acc,ay,nn,H7,J7,t7,f7,e7,rv,n7,w7⟩
   | true=>
    rw[if_pos rfl]at q7 ⊢
    refine bU (hE _ s2 H2 fp _ s7 σ6 H7 _ I7 q7) fun y s8 ⟨v,H8,I8,r8,m',hm,w8⟩=>?_
    obtain ⟨⟨e8,n8⟩,t8,f8,J8⟩:=again (m':=0) I8
    refine wpAny_list_append_plain (items:=ay.toArray) ⟨nn,e8⟩ (fun h9 US Sn=>?_) (by rw[List.size_toArray, <-rv.length];exact Nat.le_of_lt hz)
    obtain ⟨n9,e9⟩:=US
    refine ⟨m',hm,i+1,acc++[v],ay++[y],n9,H8,J8.turned (t':=s8.toks) (fun b o hb e=>(Sn.2 b hb).trans e) n8 DJ (.inr (Nat.le_refl _)) GQ (fun p hp=>absurd hp (by simp[bD])),?_,f8,?_,rv.append (.cons r8 .nil),n8,w8⟩
    ·exact T.keep _ _ _ t8 fun b hb o e=>(Sn.2 b (Ne.symm (Sm b hb))).trans e
    ·simpa using e9
 exact codeAny_compStart_list (loop _ rfl) (T.self _ 0 _ _ _ Sl (loop _ rfl))
theorem AA {X:Cx} {tg iter elt:Expr} {ifs:List Expr} {scope:Scope} {pos:Pos} {wi:TI} {g:TG} {tc:TT} {te:TE} (Nc:List Str) (ix:List (Option Nat)) (hi:PI X tg iter wi) (ir:X.calm=true) (xp:ij X scope Nc ix)
  (ft: ∀y∈scope.names,y.2≠ .cell) (gj:scope.kind= .function) (oU: ∀y∈scope.names,y.2= .free->X.env.kindOf y.1=some .cell\/X.env.kindOf y.1=some .free)
  (rY: ∀x∈scope.names,x.2= .local->scope.names.lookup x.1=some .local)
  (hG: ∀C s H fp,PG (bD X scope C Nc s H fp) tg g) (hT: ∀C s H fp,PF (bD X scope C Nc s H fp) ifs tc) (hE: ∀C s H fp,PE (bD X scope C Nc s H fp) elt te)
  (hs: ∀x,foldedSetIterable iter X.env x=pure x:=by intro _;rfl):PE X (.ListComp elt [⟨tg,iter,ifs,0⟩] scope pos) (qi wi ix g tc te):=by
 intro pins s σ H Q I h
 rw[eval_ListComp]
 have Fw: ∀y∈scope.names,y.2= .free-> ∃c,X.env.cells.lookup y.1=some c:=fun y hy e=>I.ok.has y.1 (oU y hy e)
 refine wpAny_comprehension_free (use:=none) rfl hs (iq Fw) gj rY (nB hi ir xp ft gj oU hG hT hE I h (RR:=fun acc C=>compPost (model X.prog X.w) X.A X.xe none (EP X pins σ Q) acc C) ?_)
 intro D C oC m H' s' eC hn fC I' q
 refine ⟨m,hn,fun h' LN=>⟨.ref D,H',?_,rfl,q⟩⟩
 exact I'.gF.turned (t':=s'.toks) (fun b o hb e=>(LN.2 b hb).trans e) fC.1 fC.2.1 fC.2.2.2.1 fC.2.2.2.2.1 fC.2.2.2.2.2
theorem AB {X:Cx} {i:Nat} {x:Str} {tg iter elt:Expr} {ifs:List Expr} {scope:Scope} {pos xW pos':Pos} {wi:TI} {g:TG} {tc:TT} {te:TE} (Nc:List Str) (ix:List (Option Nat)) (hN:X.N.Nodup) (GR:X.N[i]? =some x) (hx:Loc X.env.scope x)
  (Fx:swapsWith (.ListComp elt [⟨tg,iter,ifs,0⟩] scope pos) (some (.Name x pos')) xW.line X.env=pure true) (hi:PI X tg iter wi) (ir:X.calm=true) (xp:ij X scope Nc ix)
  (ft: ∀y∈scope.names,y.2≠ .cell) (gj:scope.kind= .function) (oU: ∀y∈scope.names,y.2= .free->X.env.kindOf y.1=some .cell\/X.env.kindOf y.1=some .free)
  (rY: ∀x∈scope.names,x.2= .local->scope.names.lookup x.1=some .local)
  (hG: ∀C s H fp,PG (bD X scope C Nc s H fp) tg g) (hT: ∀C s H fp,PF (bD X scope C Nc s H fp) ifs tc) (hE: ∀C s H fp,PE (bD X scope C Nc s H fp) elt te)
  (hs: ∀x,foldedSetIterable iter X.env x=pure x:=by intro _;rfl) (hf:X.fn x=true\/X.env.scope.names.lookup x=some .local:=by first | exact .inl rfl | exact .inr rfl | assumption):
  PS X (.Assign [.Name x pos'] (.ListComp elt [⟨tg,iter,ifs,0⟩] scope pos) xW) (Aj (qi wi ix g tc te) (t_ i)):=by
 intro pins s σ H E I h
 have Fw: ∀y∈scope.names,y.2= .free-> ∃c,X.env.cells.lookup y.1=some c:=fun y hy e=>I.ok.has y.1 (oU y hy e)
 rw[exec_Assign_Name_used _ _ _ _ Fx]
 refine wpAny_bind (wpAny_standAt (wpAny_bind ?_))
 show wpAny _ X.A (do let _ <-comprehension (.ListComp elt [⟨tg,iter,ifs,0⟩] scope pos) scope X.env _ (newList []) false (eval iter X.env) (some (assign (.Name x pos') X.env))) _ _ s
 refine wpAny_bind (wpAny_mono (wpAny_comprehension_free (use:=some (assign (.Name x pos') X.env)) (Q:=fun _ s'=>SP X pins E .next s') rfl hs (iq Fw) gj rY
  (nB hi ir xp ft gj oU hG hT hE I h (RR:=fun acc C=>compPost (model X.prog X.w) X.A X.xe (some (assign (.Name x pos') X.env)) (fun _ s'=>SP X pins E .next s') acc C) ?_)) (fun _ s' hq=>wpAny_pure (wpAny_pure hq)) fun _ _ e=>e)
 intro D C oC m H' s' eC hn fC I' q
 show wpAny _ X.A (assign (.Name x pos') X.env (.ref D)) _ _ _
 refine wpAny_assign_Name (iX I' hN GR hx (show RelV (.ref D) _ from rfl) (fun Gz So=>?_) hf)
 have pC:=So.pin (C,oC) (List.mem_append_right _ (List.mem_append_right _ (List.mem_singleton.mpr rfl)))
 refine ⟨m,?_,fun h' LN=>?_⟩
 ·obtain ⟨o,es,ep,e,r⟩:=hn
  rw[eC]at e;cases e
  exact ⟨oC,es,ep,pC.1,r⟩
 ·refine ⟨_,H',So.gF.turned (t':=Gz.toks) (fun b o hb e=>(LN.2 b hb).trans e) fC.1 fC.2.1 fC.2.2.2.1 fC.2.2.2.2.1 fC.2.2.2.2.2,q⟩
end L2
namespace L2
open PySem PySem.Spec PyProof.Rows
noncomputable def S (l:List Nat):Str:=⟨l.toArray⟩
theorem dY (l:List Nat):(S l).cps.toList=l:=by simp[S]
theorem cP (l:List Nat):(S l).length=l.length:=by simp[S,Str.length]
theorem gJ (l:List Nat):(S l).cps.size=l.length:=by simp[S]
theorem GS {a b:List Nat} (h:S a=S b):a=b:=by
 have:=congrArg (fun x:Str=>x.cps.toList) h
 simpa [S]using this
theorem LO (x:Str):x=S x.cps.toList:=by cases x;simp[S]
theorem GU (a b:List Nat):S a++S b=S (a++b):=by
 apply Str.ext'
 apply Array.toList_inj.mp
 simp[S,Str.cps_append]
theorem BZ {a b:List Nat}:decide (V.str (S a)=V.str (S b))=decide (a=b):=by
 by_cases h:a=b
 ·subst h;simp
 ·rw[decide_eq_false h,decide_eq_false]
  intro q
  exact h (GS (V.str.inj q))
noncomputable def cut {α:Type} (xs:List α) (lo hi:Option Int):List α:=(xs.drop (HT.rR xs.length 0 lo)).take (HT.rR xs.length xs.length hi - HT.rR xs.length 0 lo)
theorem qj (n d:Nat) (v:Int):max 0 (min (if v<0 then v+(n:Int) else v) (n:Int))=((HT.rR n d (some v):Nat):Int):=by
 show _=(((if v<0 then (v+(n:Int)).toNat else min v.toNat n):Nat):Int)
 by_cases hv:v<0
 ·simp only[if_pos hv];omega
 ·simp only[if_neg hv];omega
theorem j9 (lo hi:Option Int) (n:Nat):Builtin.Str.strSliceIndices lo hi 1 n=(List.range (HT.rR n n hi - HT.rR n 0 lo)).map (HT.rR n 0 lo+ ·):=by
 have h1:(1:Int)>0:=by decide
 rw[<-sliceRange_one]
 unfold Builtin.Str.strSliceIndices
 simp only[h1,if_true]
 congr 1
 ·cases lo with
  | none=>rfl
  | some v=>exact qj n 0 v
 ·cases hi with
  | none=>rfl
  | some v=>exact qj n n v
theorem AD (l:List Nat) (lo hi:Option Int):Txt.slice (S l) lo hi=S (cut l lo hi):=by
 have hx:((Builtin.Str.strSliceIndices lo hi 1 (S l).length).filterMap ((S l).cps[·]?))=cut l lo hi:=by
  rw[cP,j9,pick_run,dY]
  rfl
 have hlen:(Builtin.Str.strSliceIndices lo hi 1 (S l).length).length=HT.rR l.length l.length hi - HT.rR l.length 0 lo:=by
  rw[cP,j9,List.length_map,List.length_range]
 unfold Txt.slice
 by_cases hc:((1:Int)==1&&(Builtin.Str.strSliceIndices lo hi 1 (S l).length).length==(S l).length)=true
 ·rw[if_pos hc]
  rw[hlen,cP]at hc
  have e:HT.rR l.length l.length hi - HT.rR l.length 0 lo=l.length:=by simpa using hc
  have h2:=HT.Dr l.length l.length (Nat.le_refl _) hi
  have e0:HT.rR l.length 0 lo=0\/l.length=0:=by omega
  unfold cut
  rw[e]
  rcases e0 with z | z
  ·rw[z];simp
  ·have:l=[]:=List.eq_nil_of_length_eq_zero z
   subst this
   simp
 ·rw[if_neg hc]
  rw[hx]
  rfl
section
variable {X:Cx}
theorem dZ {x:Str} {j pos} (l:List Nat) (h:x=S l):PE X (.Constant (.str x) j pos) (tC (.str (S l))):=by
 subst h
 exact C6
noncomputable def GV:R2:=fun x y H Q=> ∃a b,x= .str (S a)/\y= .str (S b)/\a.length+b.length<=sizeLine/\Q (.str (S (a++b))) H
theorem eh:fq X (binaryOp .Add) GV:=by
 intro pins s σ H x y v u Q I rx ry h
 obtain ⟨a,b,rfl,rfl,hz,q⟩:=h
 exact rQ pins s σ H _ _ v u Q I rx ry ⟨S a,S b,rfl,rfl,by rw[cP,cP];exact hz,by rw[GU];exact q⟩
noncomputable def GW:R2:=fun x y H Q=> ∃l i c,x= .str (S l)/\y= .int i/\l.length<=sizeLine/\ny l i=some c/\Q (.str (S [c])) H
theorem jO:Ds X GW:=by
 intro value slice pins s σ H x y v u Q I rx ry h hs
 obtain ⟨l,i,c,rfl,rfl,hz,he,q⟩:=h
 exact Du value slice pins s σ H _ _ v u Q I rx ry ⟨S l,i,c,rfl,rfl,by rw[cP];exact hz,by rw[dY];exact he,q⟩ hs
noncomputable def LP:V->Option Int->Option Int->Hp->VK->Prop:=fun x lo hi H Q=> ∃l,x= .str (S l)/\l.length<=sizeLine/\Q (.str (S (cut l lo hi))) H
theorem jc:R7 X LP:=by
 intro pins s σ H x v vl vu lo hi sl Q I rx hs pl pu h
 obtain ⟨l,rfl,hz,q⟩:=h
 obtain ⟨t,rfl⟩:=rx
 refine ⟨"str",_,F.slot_str_getitem.lookup,typeIs_str _ _ _,?_⟩
 have key: ∀(a b:Option (Int×Tok)),vl=partValue a->vu=partValue b->a.map (·.1)=lo->b.map (·.1)=hi->wpAny (model X.prog X.w) X.A (getItem (.str (S l) t) (.ref sl)) (EP X pins σ Q) X.xe s:=by
  rintro a b rfl rfl rfl rfl
  obtain ⟨o,e,c,d⟩:=hs
  refine wpAny_getItem_str_slice (l:=a) (u:=b) (st:=none) ⟨o,e,c,d⟩ rfl (post_val_or_str ⟨?_,fun t' k=>?_⟩)
  ·exact Nat.le_trans (Txt.slice_le (S l) _ _) (by rw[cP];exact hz)
  ·exact ⟨.str (S (cut l _ _)),H,I.tok _,⟨t',congrArg (fun z=>Value.str z t') (AD l _ _)⟩,q⟩
 cases pl with
 | none=>
  cases pu with
  | none=>exact key none none rfl rfl rfl rfl
  | int i ti=>exact key none (some (i,ti)) rfl rfl rfl rfl
 | int i ti=>
  cases pu with
  | none=>exact key (some (i,ti)) none rfl rfl rfl rfl
  | int j tj=>exact key (some (i,ti)) (some (j,tj)) rfl rfl rfl rfl
theorem aX:cV X (.builtin "len") (fun xs H Q=> ∃l,xs=[.str (S l)]/\l.length<=sizeLine/\Q (.int l.length) H):=by
 intro pins s σ H xs us Q I r h
 obtain ⟨l,rfl,hz,q⟩:=h
 exact oQ pins s σ H _ us Q I r ⟨S l,rfl,by rw[cP];exact hz,by rw[cP];exact q⟩
noncomputable def bY (l:List Nat):List V:=l.map fun c=>V.str (S [c])
theorem rZ {l:List Nat}: ∀{acc:List Value},acc.length=l.length->(∀j v,acc[j]? =some v->SignAt (S l) j v)->Vals (bY l) acc:=by
 induction l with
 | nil=>intro acc h _;have:acc=[]:=List.eq_nil_of_length_eq_zero h;subst this;exact .nil
 | cons c l ih=>
  intro acc h k
  cases acc with
  | nil=>cases h
  | cons a acc=>
   refine .cons ?_ (ih (by simpa using h) fun j v e=>?_)
   ·obtain ⟨c',u,e1,e2⟩:=k 0 a rfl
    have:c=c':=by simpa [S]using e1
    subst this
    exact ⟨u,e2⟩
   ·obtain ⟨c',u,e1,e2⟩:=k (j+1) v (by simpa using e)
    exact ⟨c',u,by simpa [S]using e1,e2⟩
theorem iG (hc:X.calm=true):cV X (.type "list") (fun xs H Q=> ∃l,xs=[.str (S l)]/\l.length<=sizeLine/\ ∀p,H p=none->Q (.ref p) (upd H p (.lst (bY l)))):=by
 intro pins s σ H xs us Q I r h
 obtain ⟨l,rfl,hz,q⟩:=h
 obtain ⟨u,rfl,t,rfl⟩:=vals1 r
 refine call_list_str (I.ok.hd hc) (S l) t (fun h' tk bu c' hk e rX=>?_) (by rw[gJ];exact hz)
 obtain ⟨h1,h2⟩:=rX
 rw[gJ]at h1
 refine ⟨.ref s.heap.objs.size,_,I.laid (t':=tk) (o:= .lst (bY l)) hk (Nat.le_refl _) ?_,rfl,q _ I.fresh⟩
 exact ⟨by unfold bY;rw[List.length_map];exact hz,bu.toList,c',rZ (by simpa using h1) (fun j v e=>h2 j v (by simpa using e)),by simpa using e⟩
noncomputable def LQ:R2:=fun x y H Q=> ∃c l,x= .str (S [c])/\y= .str (S l)/\Q (.bl (decide (c∈l))) H
theorem xX:fq X (compareOp .In) LQ:=by
 intro pins s σ H x y v u Q I rx ry h
 obtain ⟨c,l,rfl,rfl,q⟩:=h
 refine vp pins s σ H _ _ v u Q I rx ry ⟨S [c],S l,rfl,rfl,?_⟩
 have e:=StrLaws.found_one (S l) c
 rw[dY]at e
 rw[show (S [c])=(⟨#[c]⟩:Str) from rfl,e]
 exact q
noncomputable def GX:R2:=fun x y H Q=> ∃c l,x= .str (S [c])/\y= .str (S l)/\Q (.bl (!decide (c∈l))) H
theorem AE:fq X (compareOp .NotIn) GX:=by
 intro pins s σ H x y v u Q I rx ry h
 obtain ⟨c,l,rfl,rfl,q⟩:=h
 refine oO pins s σ H _ _ v u Q I rx ry ⟨S [c],S l,rfl,rfl,?_⟩
 have e:=StrLaws.found_one (S l) c
 rw[dY]at e
 rw[show (S [c])=(⟨#[c]⟩:Str) from rfl,e]
 exact q
end
end L2
namespace L2
open PySem PySem.Spec PyProof.Rows
theorem nC (s sub:Str) (hi:Nat): ∀(l:List Nat) (st:Array Nat×Nat),1<=st.fst.size->(forIn l st (StrLaws.occBody s sub hi 1)).run.fst=st.fst
 | [],st,h=>rfl
 | a::l,st,h=>by
  rw[List.forIn_cons]
  unfold StrLaws.occBody
  rw[if_neg (fun z=>absurd z.1.1.1 (Nat.not_lt.mpr h))]
  exact nC s sub hi l _ h
theorem occ_first (s sub:Str) (hi:Nat): ∀(l:List Nat) (free:Nat),(∀i∈l,free<=i)->
  (forIn l ((#[]:Array Nat),free) (StrLaws.occBody s sub hi 1)).run.fst.toList=(l.find? fun i=>decide (i+sub.length<=hi)&&Builtin.Str.subAt s sub i).toList
 | [],free,_=>rfl
 | a::l,free,hf=>by
  rw[List.forIn_cons,List.find?_cons]
  unfold StrLaws.occBody
  have ha:free<=a:=hf a List.mem_cons_self
  by_cases hc:a+sub.length<=hi/\Builtin.Str.subAt s sub a=true
  ·rw[if_pos ⟨⟨⟨by simp,ha⟩,hc.1⟩,hc.2⟩]
   have:(decide (a+sub.length<=hi)&&Builtin.Str.subAt s sub a)=true:=by simp[hc]
   rw[this]
   show (forIn l (#[].push a,a+sub.length) (StrLaws.occBody s sub hi 1)).run.fst.toList=_
   rw[nC s sub hi l _ (by simp)]
   rfl
  ·rw[if_neg (fun z=>hc ⟨z.1.2,z.2⟩)]
   have:(decide (a+sub.length<=hi)&&Builtin.Str.subAt s sub a)=false:=by
    cases h1:decide (a+sub.length<=hi) with
    | false=>rfl
    | true=>
     cases h2:Builtin.Str.subAt s sub a with
     | false=>rfl
     | true=>exact absurd ⟨of_decide_eq_true h1,h2⟩ hc
   rw[this]
   exact occ_first s sub hi l free fun i JF=>hf i (List.mem_cons_of_mem _ JF)
theorem subAt_one (l:List Nat) (c i:Nat):Builtin.Str.subAt (S l) (S [c]) i=(l[i]? ==some c):=by
 unfold Builtin.Str.subAt
 rw[cP]
 show ((S l).cps.extract i (i+1)== #[c])=_
 have e:((S l).cps.extract i (i+1))=((l.drop i).take 1).toArray:=by
  apply Array.toList_inj.mp
  simp[S,List.take_drop]
 rw[e]
 by_cases h:i<l.length
 ·have e2:(l.drop i).take 1=[l[i]]:=by
   rw[List.drop_eq_getElem_cons h];rfl
  rw[e2,List.getElem?_eq_getElem h]
  by_cases hc:l[i]=c
  ·rw[hc];simp
  ·have h1:([l[i]].toArray== #[c])=false:=by
    rw[beq_eq_false_iff_ne]
    intro z
    apply hc
    have:=congrArg Array.toList z
    simpa using this
   have h2:(some l[i]==some c)=false:=by simpa using hc
   rw[h1,h2]
 ·have e2:(l.drop i).take 1=[]:=by rw[List.drop_eq_nil_of_le (by omega)];rfl
  rw[e2,List.getElem?_eq_none (by omega)]
  rfl
theorem k_ (l:List Nat) (c:Nat): ∀(k n:Nat),k+n=l.length+1->((List.range' k n).find? fun i=>decide (i+1<=l.length)&&(l[i]? ==some c))=if c∈l.drop k then some (k+(l.drop k).idxOf c) else none
 | k,0,h=>by
  have:l.drop k=[]:=List.drop_eq_nil_of_le (by omega)
  rw[this];simp
 | k,n+1,h=>by
  rw[List.range'_succ,List.find?_cons]
  by_cases hk:k<l.length
  ·have e:l.drop k=l[k]::l.drop (k+1):=List.drop_eq_getElem_cons hk
   rw[List.getElem?_eq_getElem hk,e]
   by_cases hc:l[k]=c
   ·have:(decide (k+1<=l.length)&&(some l[k]==some c))=true:=by simp[hc];omega
    rw[this,if_pos (by simp[hc])]
    simp[hc]
   ·have:(decide (k+1<=l.length)&&(some l[k]==some c))=false:=by simp[hc]
    rw[this,k_ l c (k+1) n (by omega)]
    have vj: ¬c=l[k]:=fun z=>hc z.symm
    by_cases hm:c∈l.drop (k+1)
    ·rw[if_pos hm,if_pos (List.mem_cons_of_mem _ hm),List.idxOf_cons]
     have:(l[k]==c)=false:=by simpa using hc
     rw[this]
     show some (k+1+List.idxOf c (List.drop (k+1) l))=some (k+(List.idxOf c (List.drop (k+1) l)+1))
     congr 1
     omega
    ·rw[if_neg hm,if_neg (by intro z;rcases List.mem_cons.mp z with z | z;exact vj z;exact hm z)]
  ·have:l.drop k=[]:=List.drop_eq_nil_of_le (by omega)
   have e1:(decide (k+1<=l.length)&&(l[k]? ==some c))=false:=by
    rw[decide_eq_false (by omega)];rfl
   have e2:l.drop (k+1)=[]:=List.drop_eq_nil_of_le (by omega)
   rw[e1,k_ l c (k+1) n (by omega),this,e2]
   simp
theorem GY (l:List Nat) (c:Nat):Builtin.Str.occurrences (S l) (S [c]) 0 (S l).length 1=if c∈l then [l.idxOf c] else []:=by
 rw[StrLaws.occ_eq,occ_first _ _ _ _ 0 fun _ _=>Nat.zero_le _]
 have e:(fun i=>decide (i+(S [c]).length<=(S l).length)&&Builtin.Str.subAt (S l) (S [c]) i)=fun i=>decide (i+1<=l.length)&&(l[i]? ==some c):=by
  funext i
  rw[subAt_one,cP,cP]
  rfl
 rw[e,cP,Nat.sub_zero,k_ l c 0 (l.length+1) (by omega),List.drop_zero]
 by_cases h:c∈l
 ·rw[if_pos h,if_pos h,Nat.zero_add];rfl
 ·rw[if_neg h,if_neg h];rfl
section
variable {X:Cx}
noncomputable def AF:V->List V->Hp->VK->Prop:=fun x vs H Q=> ∃l c,x= .str (S l)/\vs=[.str (S [c])]/\c∈l/\Q (.int (l.idxOf c:Nat)) H
theorem nE:vz X "str.index" AF:=by
 intro pins s σ H x xs v us Q I rx rv h
 obtain ⟨l,c,rfl,rfl,hc,q⟩:=h
 obtain ⟨t,rfl⟩:=rx
 obtain ⟨u,rfl,t',rfl⟩:=vals1 rv
 exact SC.index (i:=l.idxOf c) (rest:=[]) (by rw[GY,if_pos hc]) ⟨.int (l.idxOf c:Nat),H,I.tok _,⟨_,rfl⟩,q⟩
noncomputable def GZ (f:Nat->Bool):V->List V->Hp->VK->Prop:=fun x vs H Q=> ∃c,x= .str (S [c])/\vs=[]/\c<128/\Q (.bl (f c)) H
noncomputable def G0 (f:Nat->Nat):V->List V->Hp->VK->Prop:=fun x vs H Q=> ∃c,x= .str (S [c])/\vs=[]/\c<128/\Q (.str (S [f c])) H
noncomputable def cn (c:Nat):Bool:=decide (97<=c)&&decide (c<=122)
theorem AG: ∀c,c<128->Txt.islower ⟨#[c]⟩=cn c:=by decide+kernel
theorem la:vz X "str.islower" (GZ cn):=by
 intro pins s σ H x xs v us Q I rx rv h
 obtain ⟨c,rfl,rfl,hc,q⟩:=h
 obtain ⟨t,rfl⟩:=rx
 have e:us=[]:=by cases rv;rfl
 subst e
 exact SC.islower ⟨.bl (cn c),H,I,congrArg Value.bool (AG c hc),q⟩
theorem upper_one {c:Nat} (hc:c<128):Txt.upper (S [c])=S [up1 c]:=by
 rw[upper_ascii (by intro d hd;rw[dY]at hd;simp at hd;omega)]
 simp[S]
theorem nF {c:Nat} (hc:c<128):Txt.lower (S [c])=S [lo1 c]:=by
 rw[lower_ascii (by intro d hd;rw[dY]at hd;simp at hd;omega)]
 simp[S]
theorem B0 (c:Nat):Builtin.Str.tooLong (S [c]).length=false:=by
 rw[cP]
 show Builtin.Str.tooLong 1=false
 decide
theorem xY:vz X "str.upper" (G0 up1):=by
 intro pins s σ H x xs v us Q I rx rv h
 obtain ⟨c,rfl,rfl,hc,q⟩:=h
 obtain ⟨t,rfl⟩:=rx
 have e:us=[]:=by cases rv;rfl
 subst e
 exact SC.upper (by rw[upper_one hc];exact B0 _) ⟨.str (S [up1 c]),H,I.tok _,⟨_,congrArg (fun z=>Value.str z _) (upper_one hc)⟩,q⟩
theorem gK:vz X "str.lower" (G0 lo1):=by
 intro pins s σ H x xs v us Q I rx rv h
 obtain ⟨c,rfl,rfl,hc,q⟩:=h
 obtain ⟨t,rfl⟩:=rx
 have e:us=[]:=by cases rv;rfl
 subst e
 exact SC.lower (by rw[nF hc];exact B0 _) ⟨.str (S [lo1 c]),H,I.tok _,⟨_,congrArg (fun z=>Value.str z _) (nF hc)⟩,q⟩
theorem xZ: ∀(ls:List (List Nat)) (a:Array Nat),(ls.map S).foldl (fun acc p=>acc++(S []).cps++p.cps) a=a++ls.flatten.toArray
 | [],a=>by simp
 | l::ls,a=>by
  rw[List.map_cons,List.foldl_cons,xZ ls]
  simp[S]
theorem x3 (ls:List (List Nat)):Txt.join (S []) (ls.map S)=S ls.flatten:=by
 unfold Txt.join Builtin.Str.glued
 cases ls with
 | nil=>rfl
 | cons l ls=>
  show Str.mk ((List.map S ls).foldl (fun acc p=>acc++(S []).cps++p.cps) (S l).cps)=_
  rw[xZ]
  simp[S]
theorem iH: ∀{ls:List (List Nat)} {us:List Value},Vals (ls.map fun l=>V.str (S l)) us->StrsAre us (ls.map S)
 | [],us,r=>by cases r;exact .nil
 | l::ls,us,r=>by
  cases r with
  | cons r1 r2=>
   obtain ⟨t,rfl⟩:=r1
   exact .cons _ t (iH r2)
noncomputable def x4 (K:PySem.W.Frag):V->List V->Hp->VK->Prop:=fun x vs H Q=> ∃(p:Addr) (ls:List (List Nat)),x= .str (S [])/\vs=[.ref p]/\aT K H p (ls.map fun l=>V.str (S l))/\(ls.map List.length).sum<=16777216/\Q (.str (S ls.flatten)) H
theorem x5:vz X "str.join" (x4 X.K):=by
 intro pins s σ H x xs v us Q I rx rv h
 obtain ⟨p,ls,rfl,rfl,hq,hz,q⟩:=h
 obtain ⟨t,rfl⟩:=rx
 obtain ⟨u,rfl,ru⟩:=vals1 rv
 cases ru
 obtain ⟨ay,r,pl,_⟩:=I.list hq
 have e:(S []).length=0:=rfl
 refine join_list pl.isList (by simpa using iH r) ?_ fun t' k=>?_
 ·rw[e,Nat.mul_zero,Nat.add_zero,List.map_map]
  have e2:(Str.length ∘ S)=List.length:=by funext l;exact cP l
  have e3:((fun x:Str=>x.length) ∘ S)=List.length:=by funext l;exact cP l
  first | (rw[e2];exact hz) | (rw[e3];exact hz)
 ·exact ⟨.str (S ls.flatten),H,I.tok _,⟨t',congrArg (fun z=>Value.str z t') (x3 ls)⟩,q⟩
theorem vG (hc:X.calm=true):cV X (.builtin "all") (fun xs H Q=> ∃(p:Addr) (bs:List Bool),xs=[.ref p]/\aT X.K H p (bs.map V.bl)/\Q (.bl (bs.all id)) H):=by
 intro pins s σ H xs us Q I r h
 obtain ⟨p,bs,rfl,hq,q⟩:=h
 obtain ⟨u,rfl,ru⟩:=vals1 r
 cases ru
 obtain ⟨ay,rv,pl,hz⟩:=I.list hq
 have hlen:ay.length=bs.length:=by rw[<-rv.length,List.length_map]
 have hp:p<s.heap.objs.size:=by
  obtain ⟨o,n,e,_⟩:=pl
  exact Heap.lt_size e
 refine call_all_walk (wpAny_pyIter_list pl.isList ?_)
 refine ⟨s.heap.objs.size,_,_,_,_,_,fun i=>(bs[i]?).getD true,rfl,Walks.list (A:=X.A.in1) (I.ok.hd hc) s.heap.objs.size p (Nat.ne_of_lt hp) ay.toArray,⟨⟨_,Heap.get?_push_size _ rfl,rfl,rfl⟩,?_⟩,fun i v s' Q' E' hP hQ=>?_,fun h' tk hk=>?_⟩
 ·obtain ⟨o,ho,hr⟩:=pl.isList
  exact ⟨o,Heap.get?_push_of_some _ ho,hr⟩
 ·have Sr:ay[i]? =some v:=by simpa using hP
  have hi:i<bs.length:=by rw[<-hlen];exact (List.getElem?_eq_some_iff.mp Sr).1
  have hb:(bs.map V.bl)[i]? =some (V.bl bs[i]):=by rw[List.getElem?_map,List.getElem?_eq_getElem hi];rfl
  obtain ⟨u,hu,ru⟩:=rv.get hb
  rw[Sr]at hu;cases hu
  cases (show v=Value.bool bs[i] from ru)
  have e:(bs[i]?).getD true=bs[i]:=by rw[List.getElem?_eq_getElem hi];rfl
  have Ss:Q' ((bs[i]?).getD true) s':=hQ
  rw[e]at Ss
  exact wpAny_pure Ss
 ·have e:((List.range ay.toArray.size).all fun i=>(bs[i]?).getD true)=bs.all id:=by
   rw[List.size_toArray,hlen]
   clear hq rv hlen q
   rw[Bool.eq_iff_iff,List.all_eq_true,List.all_eq_true]
   constructor
   ·intro h b hb
    obtain ⟨i,hi,e⟩:=List.getElem_of_mem hb
    have:=h i (List.mem_range.mpr hi)
    rw[List.getElem?_eq_getElem hi,e]at this
    exact this
   ·intro h i hi
    have JF:=List.mem_range.mp hi
    rw[List.getElem?_eq_getElem JF]
    exact h _ (List.getElem_mem JF)
  have I1:Inv X pins σ H { s with heap:=h',toks:=tk }:=by
   have I0:Inv X pins σ H { s with heap:=s.heap.push { cls:= .type "list_iterator",data:= .fields #[.ref p, .int 0 0] } }:=I.kept (t':=s.toks) fun b o e=>Heap.get?_push_of_some _ e
   have f:=I.iZ (H':=H) (b:=s.heap.objs.size) (Nat.le_refl _) I.fresh
   have J:=I0.turned (h':=h') (t':=tk) (it:=s.heap.objs.size) (fun b o hb e=>hk b o (by simpa using hb) e) f.1 f.2.1 f.2.2.2.1 f.2.2.2.2.1 f.2.2.2.2.2
   exact J
  exact ⟨.bl (bs.all id),H,I1,by rw[e];rfl,q⟩
end
end L2
namespace L2.F2
open PySem PySem.Spec PyProof.Rows
theorem nG:Manifest.owners.lookup (String.ofList ['d','e','s','r','e','v','e','r'].reverse)=some Manifest.sig_reversed:=by kernel_rfl
theorem cQ:Slot "reversed" "__next__" "reversed.__next__":=
 .of (owner:="reversed") (n:="__next__") (by rw[typeLookup_type,builtinLookup_eq_fast];kernel_rfl) (by decide+kernel) (by decide+kernel) (by decide+kernel)
  (by first | exact .inl (by decide+kernel) | exact .inr (by decide+kernel)) (by rw[isSubtype_type];kernel_rfl)
theorem gL:entryFor table "reversed.__next__"=some Builtin.«reversed.__next__» :=entryFor_of_tree (by kernel_rfl)
theorem gk (a:Value):argsOk "reversed.__next__" ⟨[a],[]⟩:=by
 unfold argsOk;rw[signature?_of (id:="reversed.__next__") (n:=['_','_','t','x','e','n','_','_']) (o:=['d','e','s','r','e','v','e','r']) (by kernel_rfl) nG];kernel_rfl
theorem iu:Slot "reversed" "__iter__" "reversed.__iter__":=
 .of (owner:="reversed") (n:="__iter__") (by rw[typeLookup_type,builtinLookup_eq_fast];kernel_rfl) (by decide+kernel) (by decide+kernel) (by decide+kernel)
  (by first | exact .inl (by decide+kernel) | exact .inr (by decide+kernel)) (by rw[isSubtype_type];kernel_rfl)
theorem ko (a:Value):argsOk "reversed.__iter__" ⟨[a],[]⟩:=by
 unfold argsOk;rw[signature?_of (id:="reversed.__iter__") (n:=['_','_','r','e','t','i','_','_']) (o:=['d','e','s','r','e','v','e','r']) (by kernel_rfl) nG];kernel_rfl
theorem lb:entryFor table "reversed.__iter__"=some Builtin.«dict_keyiterator.__iter__» :=
 entryFor_alias (id':="dict_keyiterator.__iter__") (by kernel_rfl) (by first | rfl | decide+kernel | (unfold String.splitOn;simp+decide [String.splitOnAux])) (by decide+kernel) (by kernel_rfl)
theorem mQ:Slot "reversed" "__init__" "object.__init__":=
 .of (owner:="object") (n:="__init__") (by rw[typeLookup_type,builtinLookup_eq_fast];kernel_rfl) (by decide+kernel) (by decide+kernel) (by decide+kernel)
  (by first | exact .inl (by decide+kernel) | exact .inr (by decide+kernel)) (by rw[isSubtype_type];kernel_rfl)
theorem r0:TypeCalled "reversed" "reversed.__new__" "object.__init__":=
 ⟨by decide+kernel,by decide+kernel,⟨_,_,F.mro_reversed⟩,F.made_reversed,by decide+kernel,by rw[isSubtype_type];kernel_rfl,mQ⟩
theorem r6:typeLookup (.type "str") "__reversed__"=pure none:=by rw[typeLookup_type,builtinLookup_eq_fast];kernel_rfl
end L2.F2
namespace L2
open PySem PySem.Spec PyProof.Rows
theorem lg (x:Str) (t:Tok) (hz:x.length<=sizeLine):Meets (Builtin.«reversed.__new__» ⟨[.type "reversed", .str x t],[]⟩) (fun _ R s=> ∀tk,R (.ok (.ret (.ref s.heap.objs.size))) { s with heap:=s.heap.push { cls:= .type "reversed",data:= .fields #[.str x t,rawInt ((x.length:Int) - 1)] },toks:=tk }):=by
 refine Meets.of_wp fun prog w A R s h=>?_
 unfold Builtin.«reversed.__new__»
 refine wpAny_bind (wpAny_of_eq (newClass_reversed _) ?_)
 try dsimp only
 refine wpAny_bind (wpAny_of_eq (a:=()) (by first | rfl | kernel_rfl) ?_)
 refine wpAny_bind (wpAny_of_eq (a:=()) (by first | rfl | kernel_rfl) ?_)
 try dsimp only
 refine wpAny_bind (wpAny_specialOf (typeIs_str s x t) F2.r6 ?_)
 try dsimp only
 refine wpAny_bind (wpAny_of_eq (a:=true) (by first | rfl | kernel_rfl) ?_)
 rw[if_neg (by decide)]
 have hn:=fi
 refine wpAny_bind (len_str (by omega) ?_)
 refine wpAny_bind (wpAny_of_eq (a:=some (x.length:Int)) (by first | rfl | kernel_rfl) ?_)
 show wpAny _ _ (Builtin.SmallTypes.newRecord (Value.type "reversed") [Value.str x t,rawInt ((x.length:Int) - 1)] >>= _) _ _ _
 refine wpAny_bind ?_
 unfold Builtin.SmallTypes.newRecord
 refine wpAny_newObj_type ?_ (by size_fits)
 exact wpAny_pure ⟨_,rfl,h _⟩
section
variable {prog:Program} {w:World} {A:Around} {E:Value->Shared->Prop} {s:Shared}
theorem lh {x:Str} {t:Tok} {Q:Value->Shared->Prop} (hz:x.length<=sizeLine) (h: ∀tk,Q (.ref s.heap.objs.size) { s with heap:=s.heap.push { cls:= .type "reversed",data:= .fields #[.str x t,rawInt ((x.length:Int) - 1)] },toks:=tk }):
  wpAny (model prog w) A (call (.type "reversed") [.str x t]) Q E s:=
 callType_new F2.r0 (by decide+kernel) (F.typeCall_reversed_1 _) (F.newCall_reversed_1 _) (fun obj=>by unfold argsOk;kernel_rfl) F.entry_reversed_new (lg x t hz)
  fun tk=>⟨⟨_,Heap.get?_push_size _ rfl,rfl⟩,h tk⟩
noncomputable def gM (h:Heap) (it:Addr) (x:Str) (t:Tok) (i:Int):Prop:= ∃o,h.get? it=some o/\o.cls= .type "reversed"/\o.data= .fields #[.str x t,rawInt i]
theorem gM.typeIs {it:Addr} {x:Str} {t:Tok} {i:Int} (h:gM s.heap it x t i):s.TypeIs (.ref it) "reversed":=let ⟨o,ho,hc,_⟩:=h;⟨o,ho,hc⟩
theorem lj {it:Addr} {x:Str} {t:Tok} {i:Int} {Q:Value->Shared->Prop} (hit:gM s.heap it x t i) (h:Q (.ref it) s):wpAny (model prog w) A (pyIter (.ref it)) Q E s:=by
 refine wpAny_pyIter_slot hit.typeIs F2.iu (wpAny_call_entry F2.iu hit.typeIs F2.lb ?_ (F2.ko _))
 show wpAny _ _ (ret (.ref it)) _ _ s
 exact wpAny_pure ⟨_,rfl,"reversed",_,hit.typeIs,F2.cQ.lookup,h⟩
theorem kq {it:Addr} {x:Str} {t:Tok} {i c:Nat} {Q:Option Value->Shared->Prop} (hit:gM s.heap it x t (i:Int)) (hx:x.cps[i]? =some c) (hz:x.length<=sizeLine)
  (hQ: ∀h' tk u,gM h' it x t ((i:Int) - 1)->Heap.SameBut it s.heap h'->Q (some (.str ⟨#[c]⟩ u)) { s with heap:=h',toks:=tk }):wpAny (model prog w) A (pyNext (.ref it)) Q E s:=by
 obtain ⟨o,ho,hc,hd⟩:=id hit
 have hn:=fi
 have hi:i<x.length:=(Array.getElem?_eq_some_iff.mp hx).1
 unfold pyNext
 refine wpAny_bind (wpAny_attempt (wpAny_callSpecial?_slot (name:=Str.ofString "__next__") hit.typeIs F2.cQ
  (wpAny_call_entry F2.cQ hit.typeIs F2.gL ?_ (F2.gk _))))
 unfold Builtin.«reversed.__next__»
 refine wpAny_bind (wpAny_of_eq (a:=(Value.ref it,[])) rfl ?_)
 try dsimp only
 refine wpAny_bind (wpAny_field ho hd (x:= .str x t) rfl ?_)
 refine wpAny_bind (wpAny_field ho hd (x:=rawInt (i:Int)) rfl ?_)
 show wpAny _ _ (if (i:Int)<0 then _ else _) _ _ s
 rw[if_neg (by omega)]
 refine wpAny_bind (wpAny_specialOf (typeIs_str s x t) F.slot_str_getitem.lookup ?_)
 show wpAny _ _ (if (some (Value.builtin _)).isNone=true then _ else _) _ _ s
 rw[if_neg (by decide)]
 refine wpAny_bind (wpAny_mkInt ?_)
 refine wpAny_bind (wpAny_attempt (getItem_str (c:=c) (by
  have e1:decide ((i:Int)< -(2 ^ 63:Int))=false:=decide_eq_false (by omega)
  have e2:decide ((i:Int) ≥ 2 ^ 63)=false:=decide_eq_false (by omega)
  rw[e1,e2,Bool.or_false]) (by rw[seqIndex_of (by omega) (by omega),Int.toNat_natCast];exact hx) ?_))
 show wpAny _ _ (field (Value.ref it) 1 >>= _) _ _ _
 refine wpAny_bind (wpAny_field ho hd (x:=rawInt (i:Int)) rfl ?_)
 show wpAny _ _ (setField (Value.ref it) 1 (rawInt ((i:Int) - 1)) >>= _) _ _ _
 refine wpAny_bind (wpAny_setField ho hd (by simp) ?_)
 refine wpAny_pure ⟨_,rfl,wpAny_pure (hQ _ _ _ ?_ (Heap.SameBut.update ..))⟩
 exact ⟨_,Heap.get?_update_self _ ho (Obj.isFreed_of_fields (Obj.data_mapFields hd _)),(Obj.cls_mapFields ..).trans hc,by
  rw[Obj.data_mapFields hd];simp⟩
theorem lq {it:Addr} {x:Str} {t:Tok} {Q:Option Value->Shared->Prop} (hh:A.handled=none) (hit:gM s.heap it x t (-1))
  (hQ: ∀h',Heap.ExtBut it s.heap h'->Q none { s with heap:=h' }):wpAny (model prog w) A (pyNext (.ref it)) Q E s:=by
 obtain ⟨o,ho,hc,hd⟩:=id hit
 unfold pyNext
 refine wpAny_bind (wpAny_attempt (wpAny_callSpecial?_slot (name:=Str.ofString "__next__") hit.typeIs F2.cQ
  (wpAny_call_entry F2.cQ hit.typeIs F2.gL ?_ (F2.gk _))))
 unfold Builtin.«reversed.__next__»
 refine wpAny_bind (wpAny_of_eq (a:=(Value.ref it,[])) rfl ?_)
 try dsimp only
 refine wpAny_bind (wpAny_field ho hd (x:= .str x t) rfl ?_)
 refine wpAny_bind (wpAny_field ho hd (x:=rawInt (-1)) rfl ?_)
 show wpAny _ _ (if (-1:Int)<0 then _ else _) _ _ s
 rw[if_pos (by decide)]
 refine wpAny_bind (wpAny_rule ?_)
 refine wpAny_bind ?_
 show wpAny _ _ (setField (Value.ref it) 1 (rawInt (-1)) >>= fun _=>setField (Value.ref it) 0 .none) _ _ _
 refine wpAny_bind (wpAny_setField ho hd (by simp) ?_)
 refine wpAny_setField (Heap.get?_update_self _ ho (Obj.isFreed_of_fields (Obj.data_mapFields hd _))) (Obj.data_mapFields hd _) (by simp) ?_
 first
 | show wpAny _ _ (newExc (.type "StopIteration") [] >>= _) _ _ _
 |(refine wpAny_bind ?_;show wpAny _ _ (newExc (.type "StopIteration") [] >>= _) _ _ _)
 refine wpAny_bind ?_
 simp only[newExc,newTuple]
 refine wpAny_bind (wpAny_newObj_type ?_ (by size_fits))
 refine wpAny_bind (m:=firstArgMember _ _) (wpAny_of_eq (a:=Value.none) (by first | rfl | (simp only[firstArgMember];rfl)) ?_)
 refine wpAny_newObj_type ?_ (by size_fits)
 simp only[raiseNew]
 refine wpAny_bind (wpAny_handled ?_)
 first | rw[show A.in1.handled=none from hh] | rw[hh]
 refine wpAny_bind (wpAny_pure (wpAny_throw ?_))
 refine wpAny_bind (wpAny_isInstance (T:="StopIteration") (b:=true) ⟨_,Heap.get?_push_size _ rfl,rfl⟩ isSubtype_stop ?_)
 refine wpAny_pure (hQ _ fun b ob hb e=>?_)
 refine Heap.get?_push_of_some _ (Heap.get?_push_of_some _ ?_)
 exact (Heap.get?_update_other _ _ (Ne.symm hb)).trans ((Heap.get?_update_other _ _ (Ne.symm hb)).trans e)
end
noncomputable def AH (xs:List V):It:=⟨fun i _=>i<xs.length,fun i H x H'=>H'=H/\xs[i]? =some x,fun i _=>xs.length<=i⟩
theorem dH {l:List Nat} {i:Nat} {x:V} (h:(bY l)[i]? =some x): ∃c,l[i]? =some c/\x= .str (S [c]):=by
 unfold bY at h
 rw[List.getElem?_map]at h
 cases e:l[i]? with
 | none=>rw[e]at h;cases h
 | some c=>rw[e]at h;cases h;exact ⟨c,rfl,rfl⟩
theorem aQ (l:List Nat):(bY l).length=l.length:=by unfold bY;rw[List.length_map]
theorem x6 {P:Program} {w:World} {K:PySem.W.Frag} {tg:Expr} (it:Addr) (l:List Nat) (t:Tok):Turn P w K tg (AH (bY l)) [it] it (fun i h=>h.IsStrIter it (strIterType (S l)) (S l) t i) where
 mem:=by simp
 obj:=fun i h st b hb=>by
  have e:b=it:=by simpa using hb
  subst e
  obtain ⟨o,e,c,d⟩:=st
  exact ⟨o,e,fun v z=>by rw[d]at z;cases z⟩
 keep:=fun i h h' st k=>let ⟨o,e,r⟩:=st;⟨o,k it (by simp) o e,r⟩
 item:=by
  intro X hP hw hK hc i pins s σ H E I hf st hg
  subst hP hw hK
  have x8:i<l.length:=by have:i<(bY l).length:=hg;rwa [aQ]at this
  obtain ⟨f0,f1,f2,f3,f4,f5⟩:=hf it (by simp)
  have fin: ∀(v:Value) (h':Heap) (tk:Nat),SignAt (S l) i v->h'.IsStrIter it (strIterType (S l)) (S l) t (i+1)->(∀b o,b∉[it]->s.heap.get? b=some o->h'.get? b=some o)->
    ∃u,some v=some u/\wpAny (model X.prog X.w) X.A (letOwnedTupleGo tg (.ref it) u) (fun _ s2=> ∃x H',Inv X pins σ H' s2/\RelV x u/\(AH (bY l)).ua i H x H'/\s2.heap.IsStrIter it (strIterType (S l)) (S l) t (i+1)/\ ∀b∈[it],H' b=none) E { s with heap:=h',toks:=tk }:=by
   intro v h' tk hv iV kk
   obtain ⟨c,u,e1,e2⟩:=hv
   subst e2
   have I1:Inv X pins σ H { s with heap:=h',toks:=tk }:=I.turned (fun b o hb e=>kk b o (by simpa using hb) e) f0 f1 f3 f4 f5
   obtain ⟨o,e,cc,d⟩:=id iV
   refine ⟨_,rfl,kP (s:={ s with heap:=h',toks:=tk }) e cc d (by unfold strIterType;split<;>decide) ⟨.str (S [c]),H,I1,⟨u,rfl⟩,⟨rfl,?_⟩,iV,fun b hb=>(hf b hb).1⟩⟩
   unfold bY
   rw[List.getElem?_map]
   have UT:l[i]? =some c:=by simpa [S]using e1
   rw[UT]
   rfl
  have hsz:i<(S l).cps.size:=by rw[gJ];exact x8
  by_cases ha:(S l).cps.all (· <128)=true
  ·have et:strIterType (S l)="str_ascii_iterator":=by unfold strIterType;rw[if_pos ha]
   rw[et]at st
   exact (Walks.strAscii (prog:=X.prog) (w:=X.w) (I.ok.hd hc) it (S l) t).item i s _ _ hsz st fun v h' tk hv iV kk=>fin v h' tk hv (by rw[et];exact iV) kk
  ·have et:strIterType (S l)="str_iterator":=by unfold strIterType;rw[if_neg ha]
   rw[et]at st
   exact (Walks.strWide (prog:=X.prog) (w:=X.w) (I.ok.hd hc) it (S l) t).item i s _ _ hsz st fun v h' tk hv iV kk=>fin v h' tk hv (by rw[et];exact iV) kk
 done:=by
  intro X hP hw hK hc i pins s σ H E I hf st hg
  subst hP hw hK
  obtain ⟨f0,f1,f2,f3,f4,f5⟩:=hf it (by simp)
  have x8:l.length<=i:=by have:(bY l).length<=i:=hg;rwa [aQ]at this
  have hx:(S l).cps[i]? =none:=by rw[Array.getElem?_eq_none_iff,gJ];exact x8
  by_cases ha:(S l).cps.all (· <128)=true
  ·have et:strIterType (S l)="str_ascii_iterator":=by unfold strIterType;rw[if_pos ha]
   rw[et]at st
   exact wpAny_pyNext_ascii_end (I.ok.hd hc) st hx fun h' eb=>⟨rfl,I.turned (t':=s.toks) (fun b o hb e=>eb b o hb e) f0 f1 f3 f4 f5⟩
  ·have et:strIterType (S l)="str_iterator":=by unfold strIterType;rw[if_neg ha]
   rw[et]at st
   exact wpAny_pyNext_wide_end (I.ok.hd hc) st hx fun h' eb=>⟨rfl,I.turned (t':=s.toks) (fun b o hb e=>eb b o hb e) f0 f1 f3 f4 f5⟩
 self:=fun _ _ s _ _ st h=>by
  by_cases ha:(S l).cps.all (· <128)=true
  ·have et:strIterType (S l)="str_ascii_iterator":=by unfold strIterType;rw[if_pos ha]
   rw[et]at st
   exact wpAny_pyIter_striter_ascii st h
  ·have et:strIterType (S l)="str_iterator":=by unfold strIterType;rw[if_neg ha]
   rw[et]at st
   exact wpAny_pyIter_striter_wide st h
theorem x9 {P:Program} {w:World} {K:PySem.W.Frag} {tg:Expr} (it:Addr) (l:List Nat) (t:Tok) (hz:l.length<=sizeLine):Turn P w K tg (AH (bY l).reverse) [it] it (fun i h=>i<=l.length/\gM h it (S l) t ((l.length:Int) - 1 - (i:Int))) where
 mem:=by simp
 obj:=fun i h st b hb=>by
  have e:b=it:=by simpa using hb
  subst e
  obtain ⟨_,o,e,c,d⟩:=st
  exact ⟨o,e,fun v z=>by rw[d]at z;cases z⟩
 keep:=fun i h h' st k=>let ⟨q,o,e,r⟩:=st;⟨q,o,k it (by simp) o e,r⟩
 item:=by
  intro X hP hw hK hc i pins s σ H E I hf st hg
  subst hP hw hK
  have x8:i<l.length:=by have:i<(bY l).reverse.length:=hg;rwa [List.length_reverse,aQ]at this
  obtain ⟨f0,f1,f2,f3,f4,f5⟩:=hf it (by simp)
  obtain ⟨_,st⟩:=st
  have e:(l.length:Int) - 1 - (i:Int)=((l.length - 1 - i:Nat):Int):=by omega
  rw[e]at st
  have cN:l.length - 1 - i<l.length:=by omega
  refine kq (c:=l[l.length - 1 - i]) st (by simp[S,cN]) (by rw[cP];exact hz) fun h' tk u iV sb=>?_
  have I1:Inv X pins σ H { s with heap:=h',toks:=tk }:=I.turned (fun b o hb e=>(sb.2 b hb).trans e) f0 f1 f3 f4 f5
  obtain ⟨o,e1,cc,d⟩:=id iV
  refine ⟨_,rfl,kP (s:={ s with heap:=h',toks:=tk }) e1 cc d (by decide) ⟨.str (S [l[l.length - 1 - i]]),H,I1,⟨u,rfl⟩,⟨rfl,?_⟩,⟨x8,?_⟩,fun b hb=>(hf b hb).1⟩⟩
  ·rw[List.getElem?_reverse (by rw[aQ];exact x8),aQ]
   unfold bY
   rw[List.getElem?_map,List.getElem?_eq_getElem cN]
   rfl
  ·have e2:(l.length:Int) - 1 - ((i+1:Nat):Int)=((l.length - 1 - i:Nat):Int) - 1:=by omega
   rw[e2]
   exact iV
 done:=by
  intro X hP hw hK hc i pins s σ H E I hf st hg
  subst hP hw hK
  obtain ⟨f0,f1,f2,f3,f4,f5⟩:=hf it (by simp)
  have x8:l.length<=i:=by have:(bY l).reverse.length<=i:=hg;rwa [List.length_reverse,aQ]at this
  obtain ⟨hi,st⟩:=st
  have e:(l.length:Int) - 1 - (i:Int)= -1:=by omega
  rw[e]at st
  exact lq (I.ok.hd hc) st fun h' eb=>⟨rfl,I.turned (t':=s.toks) (fun b o hb e=>eb b o hb e) f0 f1 f3 f4 f5⟩
 self:=fun _ _ _ _ _ st h=>lj st.2 h
section
variable {X:Cx} {tg:Expr}
noncomputable def LR (tl:TE):TI:=fun σ H R=>tl σ H fun x H1=> ∃l,x= .str (S l)/\R (AH (bY l)) H1
theorem oV {l:Expr} {tl:TE} (hl:PE X l tl):PI X tg l (LR tl):=by
 intro pins s σ H R I h
 refine bU (hl pins s σ H _ I h) fun v s1 ⟨x,H1,I1,r1,q1⟩=>?_
 obtain ⟨l,rfl,q⟩:=q1
 obtain ⟨t,rfl⟩:=r1
 refine wpAny_pyIter_strU ?_
 refine ⟨s1.heap.objs.size,[s1.heap.objs.size],_,_,H1,rfl,I1.kept (t':=s1.toks) fun b o e=>Heap.get?_push_of_some _ e,x6 _ l t,⟨_,Heap.get?_push_size _ rfl,rfl,rfl⟩,fun b hb=>?_,q⟩
 have e:b=s1.heap.objs.size:=by simpa using hb
 subst e
 exact I1.iZ (Nat.le_refl _) (I1.bh.fresh (Nat.le_refl _))
noncomputable def LS (ta:TA):TI:=fun σ H R=>ta σ H fun vs H1=> ∃l,vs=[.str (S l)]/\l.length<=sizeLine/\R (AH (bY l).reverse) H1
theorem DN {a:Expr} {ta:TA} {p pos:Pos} (hg:Gl X "reversed") (hm:X.mg "reversed"=none) (ha:PA X [a] ta) (hs:starEach [a] X.env=[(false,eval a X.env)]:=by rfl):PI X tg (.Call (.Name "reversed" p) [a] [] pos) (LS ta):=by
 intro pins s σ H R I h
 refine Call_ (cJ I hg hm boot_reversed (PyProof.Rows.callWith_type1 (bU (ha pos pins s σ H _ I h) fun us s1 ⟨vs,H1,I1,r1,q1⟩=>?_) hs rfl))
 obtain ⟨l,rfl,hz,q⟩:=q1
 obtain ⟨u,rfl,t,rfl⟩:=vals1 r1
 refine lh (by rw[cP];exact hz) fun tk=>?_
 have hit:gM (s1.heap.push { cls:= .type "reversed",data:= .fields #[.str (S l) t,rawInt (((S l).length:Int) - 1)] }) s1.heap.objs.size (S l) t (((S l).length:Int) - 1):=⟨_,Heap.get?_push_size _ rfl,rfl,rfl⟩
 refine lj hit ?_
 refine ⟨s1.heap.objs.size,[s1.heap.objs.size],_,_,H1,rfl,I1.kept (t':=tk) fun b o e=>Heap.get?_push_of_some _ e,x9 _ l t hz,⟨Nat.zero_le _,?_⟩,fun b hb=>?_,q⟩
 ·have e:(l.length:Int) - 1 - ((0:Nat):Int)=((S l).length:Int) - 1:=by rw[cP];simp
  rw[e]
  exact hit
 ·have e:b=s1.heap.objs.size:=by simpa using hb
  subst e
  exact I1.iZ (Nat.le_refl _) (I1.bh.fresh (Nat.le_refl _))
end
theorem ui {xs:List V} {g:TG} {tb:TS} {D:Ends} {σ:St} {H:Hp} (Pv:Nat->St->Hp->Prop) (h0:Pv 0 σ H)
  (hs: ∀i x σ H,xs[i]? =some x->Pv i σ H->g x σ H fun σ2 H2=>tb { D with nx:=Pv (i+1),ct:=Pv (i+1),bk:=D.nx } σ2 H2) (hd: ∀σ H,Pv xs.length σ H->D.nx σ H):
  ∃W:Nat->Nat->St->Hp->Prop,(∃m,W 0 m σ H)/\ ∀i m σ H,W i m σ H->
   ((AH xs).stop i H/\D.nx σ H)\/((AH xs).go i H/\ ∃N:St->Hp->Prop,(∀σ' H',N σ' H'-> ∃m',m'<m/\W (i+1) m' σ' H')/\ ∀x H',(AH xs).ua i H x H'->g x σ H' fun σ2 H2=>tb { D with nx:=N,ct:=N,bk:=D.nx } σ2 H2):=by
 refine ⟨fun i m σ H=>m=xs.length - i/\i<=xs.length/\Pv i σ H,⟨xs.length,by simp,Nat.zero_le _,h0⟩,?_⟩
 rintro i m σ H ⟨rfl,hi,p⟩
 by_cases cN:i<xs.length
 ·refine .inr ⟨cN,Pv (i+1),fun σ' H' p'=>⟨xs.length - (i+1),by omega,rfl,cN,p'⟩,fun x H' y=>?_⟩
  obtain ⟨e,y⟩:=y
  subst e
  exact hs i x σ _ y p
 ·have e:i=xs.length:=by omega
  subst e
  exact .inl ⟨Nat.le_refl _,hd σ H p⟩
theorem kF {J:It} {n:Nat} {xs:Nat->V->Prop} {σc:St} {g:TG} {tc:TT} {te:TE} {Q:VK} {H1:Hp} (Pv:Nat->List V->Hp->Prop) (hn:n<sizeLine) (UU: ∀i acc H,i<n->Pv i acc H->J.go i H) (G1: ∀acc H,Pv n acc H->J.stop n H)
  (hy: ∀i acc H x H',i<n->Pv i acc H->J.ua i H x H'->H'=H/\xs i x) (h0:Pv 0 [] H1)
  (hs: ∀(i:Nat) (x:V) (acc:List V) (H:Hp) (Nx:List V->Hp->Prop),i<n->xs i x->acc.length<=i->Pv i acc H->(∀bu H',bu.length<=i+1->Pv (i+1) bu H'->Nx bu H')->
   g x σc H fun σ2 H2=>Wk σc σ2/\tc σ2 H2 fun b H3=>if b=true then te σ2 H3 fun v H4=>Nx (acc++[v]) H4 else Nx acc H3)
  (hd: ∀acc H D,acc.length<=n->Pv n acc H->H D=none->Q (.ref D) (upd H D (.lst acc))):jb J σc g tc te Q H1:=by
 refine ⟨fun i m acc H=>m=n - i/\i<=n/\acc.length<=i/\Pv i acc H,⟨n,by simp,Nat.zero_le _,Nat.le_refl _,h0⟩,?_⟩
 rintro i m acc H ⟨rfl,hi,hl,p⟩
 refine ⟨by omega,?_⟩
 by_cases cN:i<n
 ·refine .inr ⟨UU i acc H cN p,fun x H' y=>?_⟩
  obtain ⟨rfl,y2⟩:=hy i acc H x H' cN p y
  exact hs i x acc _ (fun bu H'=> ∃m',m'<n - i/\(m'=n - (i+1)/\i+1<=n/\bu.length<=i+1/\Pv (i+1) bu H')) cN y2 hl p fun bu H' h1 h2=>⟨n - (i+1),by omega,rfl,cN,h1,h2⟩
 ·have e:i=n:=by omega
  subst e
  exact .inl ⟨G1 acc H p,fun D hD=>hd acc H D hl p hD⟩
theorem lr {xs:List V} {σc:St} {g:TG} {tc:TT} {te:TE} {Q:VK} {H1:Hp} (Pv:Nat->List V->Hp->Prop) (hn:xs.length<sizeLine) (h0:Pv 0 [] H1)
  (hs: ∀(i:Nat) (x:V) (acc:List V) (H:Hp) (Nx:List V->Hp->Prop),i<xs.length->xs[i]? =some x->acc.length<=i->Pv i acc H->(∀bu H',bu.length<=i+1->Pv (i+1) bu H'->Nx bu H')->
   g x σc H fun σ2 H2=>Wk σc σ2/\tc σ2 H2 fun b H3=>if b=true then te σ2 H3 fun v H4=>Nx (acc++[v]) H4 else Nx acc H3)
  (hd: ∀acc H D,acc.length<=xs.length->Pv xs.length acc H->H D=none->Q (.ref D) (upd H D (.lst acc))):jb (AH xs) σc g tc te Q H1:=
 kF (xs:=fun i x=>xs[i]? =some x) Pv hn (fun i _ _ h _=>h) (fun _ _ _=>Nat.le_refl _) (fun i _ H x H' _ _ y=>y) h0 hs hd
theorem lx {lo:Int} {n:Nat} {σc:St} {g:TG} {tc:TT} {te:TE} {Q:VK} {H1:Hp} (Pv:Nat->List V->Hp->Prop) (hn:n<sizeLine) (h0:Pv 0 [] H1)
  (hs: ∀(i:Nat) (acc:List V) (H:Hp) (Nx:List V->Hp->Prop),i<n->acc.length<=i->Pv i acc H->(∀bu H',bu.length<=i+1->Pv (i+1) bu H'->Nx bu H')->
   g (.int (lo+i)) σc H fun σ2 H2=>Wk σc σ2/\tc σ2 H2 fun b H3=>if b=true then te σ2 H3 fun v H4=>Nx (acc++[v]) H4 else Nx acc H3)
  (hd: ∀acc H D,acc.length<=n->Pv n acc H->H D=none->Q (.ref D) (upd H D (.lst acc))):jb (BO lo n) σc g tc te Q H1:=
 kF (xs:=fun i x=>x= .int (lo+i)) Pv hn (fun i _ _ h _=>h) (fun _ _ _=>Nat.le_refl _) (fun i _ H x H' _ _ y=>y) h0 (fun i x acc H Nx h1 h2=>by subst h2;exact hs i acc H Nx h1) hd
theorem vH {K:PySem.W.Frag} {a:Addr} {xs:List V} {σc:St} {g:TG} {tc:TT} {te:TE} {Q:VK} {H1:Hp} (Pv:Nat->List V->Hp->Prop) (hn:xs.length<sizeLine) (hl: ∀i acc H,Pv i acc H->aT K H a xs) (h0:Pv 0 [] H1)
  (hs: ∀(i:Nat) (x:V) (acc:List V) (H:Hp) (Nx:List V->Hp->Prop),i<xs.length->xs[i]? =some x->acc.length<=i->Pv i acc H->(∀bu H',bu.length<=i+1->Pv (i+1) bu H'->Nx bu H')->
   g x σc H fun σ2 H2=>Wk σc σ2/\tc σ2 H2 fun b H3=>if b=true then te σ2 H3 fun v H4=>Nx (acc++[v]) H4 else Nx acc H3)
  (hd: ∀acc H D,acc.length<=xs.length->Pv xs.length acc H->H D=none->Q (.ref D) (upd H D (.lst acc))):jb (Ft K a) σc g tc te Q H1:=
 kF (xs:=fun i x=>xs[i]? =some x) Pv hn (fun i acc H h p=>⟨xs,xs[i],hl i acc H p,by simp[h]⟩) (fun acc H p=>⟨xs,hl _ acc H p,Nat.le_refl _⟩) (fun i acc H x H' h p y=>⟨y.1,y.2 xs (hl i acc H p)⟩) h0 hs hd
noncomputable def AI (c:TT) (tb:TS):TS:=fun D σ H=> ∃W:Nat->St->Hp->Prop,(∃m,W m σ H)/\ ∀m σ H,W m σ H->
 c σ H fun b H1=>if b=true then tb { D with nx:=fun σ' H'=> ∃m',m'<m/\W m' σ' H',ct:=fun σ' H'=> ∃m',m'<m/\W m' σ' H',bk:=D.nx } σ H1 else D.nx σ H1
theorem eF {X:Cx} {c:Expr} {body:List Stmt} {tc:TT} {tb:TS} {pos:Pos} (hp:PassesOwn (model X.prog X.w) X.A X.env X.xe) (hc:PT X c tc) (hb:vk X body tb):PS X (.While c body [] pos) (AI tc tb):=by
 intro pins s σ H D I h
 obtain ⟨W,⟨m0,w0⟩,turn⟩:=h
 refine wpAny_While (codeAny_whileLoop (fun n s'=> ∃σ' H',Inv X pins σ' H' s'/\W n σ' H') ?_ m0 ⟨σ,H,I,w0⟩)
 rintro n s1 ⟨σ1,H1,I1,w1⟩
 refine wpAny_passesOwn hp (bU (hc pins s1 σ1 H1 _ I1 (turn n σ1 H1 w1)) fun b s2 ⟨H2,I2,q2⟩=>?_)
 cases b with
 | true=>
  rw[if_pos rfl]at q2 ⊢
  refine wpAny_passesOwn hp (bU (hb pins s2 σ1 H2 _ I2 q2) fun f s3 q3=>?_)
  cases f with
  | next=>
   obtain ⟨σ3,H3,I3,m',hm,w3⟩:=q3
   exact ⟨m',hm,σ3,H3,I3,w3⟩
  | cont=>
   obtain ⟨σ3,H3,I3,m',hm,w3⟩:=q3
   exact ⟨m',hm,σ3,H3,I3,w3⟩
  | brk=>exact q3
  | ret v=>exact q3
 | false=>
  rw[if_neg Bool.false_ne_true]at q2 ⊢
  exact wpAny_execs_nil ⟨σ1,H2,I2,q2⟩
noncomputable def oW (X:Cx) (scope:Scope):Bool:=(scope.names.all fun y=>y.2 != .cell)&&(scope.kind== .function)&&(scope.names.all fun y=>y.2 != .free||X.env.kindOf y.1==some .cell||X.env.kindOf y.1==some .free)&&(scope.names.all fun y=>y.2 != .local||scope.names.lookup y.1==some .local)
theorem jd {X:Cx} {scope:Scope} (h:oW X scope=true):(∀y∈scope.names,y.2≠ .cell)/\scope.kind= .function/\(∀y∈scope.names,y.2= .free->X.env.kindOf y.1=some .cell\/X.env.kindOf y.1=some .free)/\(∀x∈scope.names,x.2= .local->scope.names.lookup x.1=some .local):=by
 unfold oW at h
 simp only[Bool.and_eq_true]at h
 obtain ⟨⟨⟨h1,h2⟩,h3⟩,h4⟩:=h
 refine ⟨fun y hy e=>?_,by simpa using h2,fun y hy e=>?_,fun y hy e=>?_⟩
 ·have:=List.all_eq_true.mp h1 y hy
  rw[e]at this;simp at this
 ·have:=List.all_eq_true.mp h3 y hy
  rw[e]at this
  simpa using this
 ·have:=List.all_eq_true.mp h4 y hy
  rw[e]at this
  simpa using this
theorem di {X:Cx} {tg iter elt:Expr} {ifs:List Expr} {scope:Scope} {pos:Pos} {wi:TI} {g:TG} {tc:TT} {te:TE} (Nc:List Str) (ix:List (Option Nat)) (hi:PI X tg iter wi) (xp:ij X scope Nc ix)
  (hG: ∀C s H fp,PG (bD X scope C Nc s H fp) tg g) (hT: ∀C s H fp,PF (bD X scope C Nc s H fp) ifs tc) (hE: ∀C s H fp,PE (bD X scope C Nc s H fp) elt te) (bh:oW X scope=true:=by rfl) (ir:X.calm=true:=by rfl)
  (hs: ∀x,foldedSetIterable iter X.env x=pure x:=by intro _;rfl):PE X (.ListComp elt [⟨tg,iter,ifs,0⟩] scope pos) (qi wi ix g tc te):=
 let ⟨h1,h2,h3,h4⟩:=jd bh
 AA Nc ix hi ir xp h1 h2 h3 h4 hG hT hE hs
theorem lz {X:Cx} {i:Nat} {x:Str} {tg iter elt:Expr} {ifs:List Expr} {scope:Scope} {pos xW pos':Pos} {wi:TI} {g:TG} {tc:TT} {te:TE} (Nc:List Str) (ix:List (Option Nat)) (hN:X.N.Nodup) (GR:X.N[i]? =some x) (hx:Loc X.env.scope x)
  (hi:PI X tg iter wi) (xp:ij X scope Nc ix)
  (hG: ∀C s H fp,PG (bD X scope C Nc s H fp) tg g) (hT: ∀C s H fp,PF (bD X scope C Nc s H fp) ifs tc) (hE: ∀C s H fp,PE (bD X scope C Nc s H fp) elt te)
  (Fx:swapsWith (.ListComp elt [⟨tg,iter,ifs,0⟩] scope pos) (some (.Name x pos')) xW.line X.env=pure true:=by rfl) (bh:oW X scope=true:=by rfl) (ir:X.calm=true:=by rfl)
  (hs: ∀x,foldedSetIterable iter X.env x=pure x:=by intro _;rfl) (hf:X.fn x=true\/X.env.scope.names.lookup x=some .local:=by first | exact .inl rfl | exact .inr rfl | assumption):
  PS X (.Assign [.Name x pos'] (.ListComp elt [⟨tg,iter,ifs,0⟩] scope pos) xW) (Aj (qi wi ix g tc te) (t_ i)):=
 let ⟨h1,h2,h3,h4⟩:=jd bh
 AB Nc ix hN GR hx Fx hi ir xp h1 h2 h3 h4 hG hT hE hs hf
section
variable {X:Cx}
noncomputable def LU:R2:=fun x y H Q=> ∃a b,x= .str (S a)/\y= .str (S b)/\Q (.bl (decide (a=b))) H
noncomputable def LV:R2:=fun x y H Q=> ∃a b,x= .str (S a)/\y= .str (S b)/\Q (.bl (!decide (a=b))) H
theorem eQ:fq X (compareOp .Eq) LU:=by
 intro pins s σ H x y v u Q I rx ry h
 obtain ⟨a,b,rfl,rfl,q⟩:=h
 exact BQ pins s σ H _ _ v u Q I rx ry ⟨rfl,by rw[BZ];exact q⟩
theorem x_:fq X (compareOp .NotEq) LV:=by
 intro pins s σ H x y v u Q I rx ry h
 obtain ⟨a,b,rfl,rfl,q⟩:=h
 exact BR pins s σ H _ _ v u Q I rx ry ⟨rfl,by rw[BZ];exact q⟩
theorem B1 {i j:Int}:decide (V.int i=V.int j)=decide (i=j):=by
 by_cases h:i=j
 ·subst h;simp
 ·rw[decide_eq_false h,decide_eq_false]
  intro q
  exact h (V.int.inj q)
theorem oX:fq X (compareOp .Eq) (zL fun i j=> .bl (decide (i=j))):=by
 intro pins s σ H x y v u Q I rx ry h
 obtain ⟨a,b,rfl,rfl,q⟩:=h
 exact BQ pins s σ H _ _ v u Q I rx ry ⟨rfl,by rw[B1];exact q⟩
theorem ya:fq X (compareOp .NotEq) (zL fun i j=> .bl (!decide (i=j))):=by
 intro pins s σ H x y v u Q I rx ry h
 obtain ⟨a,b,rfl,rfl,q⟩:=h
 exact BR pins s σ H _ _ v u Q I rx ry ⟨rfl,by rw[B1];exact q⟩
noncomputable def LW (f:List Nat->List Nat->Bool):R2:=fun x y H Q=> ∃a b,x= .str (S a)/\y= .str (S b)/\Q (.bl (f a b)) H
theorem DO:fq X (compareOp .Lt) (LW fun a b=>decide (a<b)):=by
 intro pins s σ H x y v u Q I rx ry h
 obtain ⟨a,b,rfl,rfl,q⟩:=h
 exact vo pins s σ H _ _ v u Q I rx ry ⟨S a,S b,rfl,rfl,by rw[dY,dY];exact q⟩
end
end L2
namespace L2
open PySem PySem.Spec PyProof.Rows
section
variable {X:Cx} {tg:Expr}
theorem aV (K:PySem.W.Frag) (h:X.K=K):Ds X (GD K):=by subst h;exact As
theorem aG (K:PySem.W.Frag) (h:X.K=K):Ds X (GF K):=by subst h;exact Dt
noncomputable def G2 (K:PySem.W.Frag):List V->Hp->VK->Prop:=fun xs H Q=> ∃p ys,xs=[.ref p]/\(aT K H p ys\/aW K H p ys)/\Q (.int ys.length) H
theorem ax (K:PySem.W.Frag) (h:X.K=K):cV X (.builtin "len") (G2 K):=by subst h;exact oP
theorem lA (K:PySem.W.Frag) (h:X.K=K):vz X "str.join" (x4 K):=by subst h;exact x5
noncomputable def G3 (K:PySem.W.Frag):List V->Hp->VK->Prop:=fun xs H Q=> ∃(p:Addr) (bs:List Bool),xs=[.ref p]/\aT K H p (bs.map V.bl)/\Q (.bl (bs.all id)) H
theorem vI (K:PySem.W.Frag) (h:X.K=K) (hc:X.calm=true):cV X (.builtin "all") (G3 K):=by subst h;exact vG hc
noncomputable def uj (K:PySem.W.Frag):List V->Hp->VK->Prop:=fun xs H Q=> ∃p ys,xs=[.ref p]/\(aT K H p ys\/aW K H p ys)/\ ∀l,H l=none->Q (.ref l) (upd H l (.lst ys))
theorem cR (K:PySem.W.Frag) (h:X.K=K):cV X (.type "list") (uj K):=by subst h;exact oR
theorem fv (K:PySem.W.Frag) (h:X.K=K) {l:Expr} {tl:TE} (hl:PE X l tl):PI X tg l (BP K tl):=by subst h;exact Ak hl
theorem uk (K:PySem.W.Frag) (h:X.K=K) {l:Expr} {tl:TE} (hl:PE X l tl):PI X tg l (Gn K tl):=by subst h;exact Df hl
end
section
variable {X:Cx} {o e:Expr} {es:List Expr} {to:TE} {t:TA} {name:Str} {apos dm:Pos} {T id:String} {r:V->List V->Hp->VK->Prop}
theorem eu (K:PySem.W.Frag) (hK:X.K=K) (pa:PlainAttrs T) (slot:Slot T name id) (Dz:typeOf (.builtin id)=pure (.type "method_descriptor")) (hm:vz X id r) (ho:PE X o to)
  (kY:attributeBase o name X.env (eval o X.env)=eval o X.env:=by rfl) (i6:(apos.endLine==dm.line)=true:=by rfl):PE X (.Call (.Attribute o name apos) [] [] dm) (GH K T r to):=by
 subst hK
 exact Dy pa slot Dz hm ho kY i6
theorem bf (K:PySem.W.Frag) (hK:X.K=K) (pa:PlainAttrs T) (slot:Slot T name id) (Dz:typeOf (.builtin id)=pure (.type "method_descriptor")) (hm:vz X id r) (ho:PE X o to) (ha:PA X (e::es) t)
  (kY:attributeBase o name X.env (eval o X.env)=eval o X.env:=by rfl)
  (DA:((backTo dm (starEach (e::es) X.env)).all (fun x=>!x.1)&&(backToKw dm (keywordEach [] X.env)).all (fun x=>x.1.isSome)
   &&decide ((e::es).length+([]:List Keyword).length+(if ([]:List Keyword).isEmpty then 0 else 1)<30))=true:=by rfl)
  (i6:(apos.endLine==dm.line)=true:=by rfl) (hs:starEach (e::es) X.env=(false,eval e X.env)::starEach es X.env:=by rfl) (rT:(backTo dm (starEach es X.env)).any (·.1)=false:=by rfl):
  PE X (.Call (.Attribute o name apos) (e::es) [] dm) (R9 K T r to t):=by
 subst hK
 exact GI pa slot Dz hm ho ha kY DA i6 hs rT
end
end L2
namespace L2
open PySem PySem.Spec PyProof.Rows
mutual
inductive mI (K:PySem.W.Frag) (H:Hp):V->PyData->Prop
 | bW:mI K H .bW .none
 | bl (b:Bool):mI K H (.bl b) (.bool b)
 | int (i:Int):mI K H (.int i) (.int i)
 | str (x:Str):mI K H (.str x) (.str x)
 | lst {a:Addr} {xs:List V} {ds:List PyData} (h:aT K H a xs) (r:fz K H xs ds):mI K H (.ref a) (.list ds)
 | tup {a:Addr} {xs:List V} {ds:List PyData} (h:aW K H a xs) (r:fz K H xs ds):mI K H (.ref a) (.tuple ds)
inductive fz (K:PySem.W.Frag) (H:Hp):List V->List PyData->Prop
 | nil:fz K H [] []
 | cons {x:V} {xs:List V} {d:PyData} {ds:List PyData} (h:mI K H x d) (r:fz K H xs ds):fz K H (x::xs) (d::ds)
end
section
variable {X:Cx} {pins:List (Addr×Obj)} {σ:St} {H:Hp} {s:Shared}
mutual
theorem mI.reads (I:Inv X pins σ H s): ∀{x:V} {d:PyData} {u:Value},mI X.K H x d->RelV x u-> ∃as,Reads s.heap u d as
 | _,_,u, .bW,r=>by cases (show u=Value.none from r);exact ⟨_, .none⟩
 | _,_,u, .bl b,r=>by cases (show u=Value.bool b from r);exact ⟨_, .bool b⟩
 | _,_,u, .int i,r=>by obtain ⟨t,rfl⟩:=r;exact ⟨_, .int i t⟩
 | _,_,u, .str x,r=>by obtain ⟨t,rfl⟩:=r;exact ⟨_, .str x t⟩
 | _,_,u, .lst (a:=a) h q,r=>by
  cases (show u=Value.ref a from r)
  obtain ⟨ay,rv,pl,_⟩:=I.list h
  obtain ⟨as,ra⟩:=fz.reads I q rv
  obtain ⟨o,ho,hc,n,hd⟩:=pl.isList
  exact ⟨_, .list ho hc hd (by simpa using ra)⟩
 | _,_,u, .tup (a:=a) h q,r=>by
  cases (show u=Value.ref a from r)
  obtain ⟨ay,rv,pl,_⟩:=I.tuple h
  obtain ⟨as,ra⟩:=fz.reads I q rv
  obtain ⟨o,ho,hc,n,hd⟩:=pl
  exact ⟨_, .tuple ho hc hd (by simpa using ra)⟩
theorem fz.reads (I:Inv X pins σ H s): ∀{xs:List V} {ds:List PyData} {us:List Value},fz X.K H xs ds->Vals xs us-> ∃as,ReadsAll s.heap us ds as
 | _,_,us, .nil,r=>by cases r;exact ⟨_, .nil⟩
 | _,_,us, .cons h q,r=>by
  cases r with
  | cons r1 r2=>
   obtain ⟨as,ra⟩:=mI.reads I h r1
   obtain ⟨bs,rb⟩:=fz.reads I q r2
   exact ⟨_, .cons ra rb⟩
end
mutual
theorem mI.noDict {K:PySem.W.Frag}: ∀{x:V} {d:PyData},mI K H x d->d.hasDict=false
 | _,_, .bW=>rfl
 | _,_, .bl b=>rfl
 | _,_, .int i=>rfl
 | _,_, .str x=>rfl
 | _,_, .lst h q=>by show PyData.hasDictAll _=false;exact fz.noDict q
 | _,_, .tup h q=>by show PyData.hasDictAll _=false;exact fz.noDict q
theorem fz.noDict {K:PySem.W.Frag}: ∀{xs:List V} {ds:List PyData},fz K H xs ds->PyData.hasDictAll ds=false
 | _,_, .nil=>rfl
 | _,_, .cons h q=>by
  show (PyData.hasDict _||PyData.hasDictAll _)=false
  rw[mI.noDict h,fz.noDict q];rfl
end
end
section
variable {X:Cx}
noncomputable def LX (K:PySem.W.Frag):R2:=fun x y H Q=> ∃dx dy,mI K H x dx/\mI K H y dy/\(dx.canLay0=true/\dy.canLay0=true)/\dx.depth<=60/\Q (.bl (PyData.eqv dx dy)) H
noncomputable def LY (K:PySem.W.Frag):R2:=fun x y H Q=> ∃dx dy,mI K H x dx/\mI K H y dy/\(dx.canLay0=true/\dy.canLay0=true)/\dx.depth<=60/\Q (.bl (!PyData.eqv dx dy)) H
theorem yb {k:Nat} (K:PySem.W.Frag) (h:X.K=K) (hr:fj k X.A):fq X (compareOp .Eq) (LX K):=by
 subst h
 intro pins s σ H x y v u Q I rx ry h
 obtain ⟨dx,dy,h1,h2,⟨h3,h4⟩,h5,q⟩:=h
 obtain ⟨as,ra⟩:=h1.reads I rx
 obtain ⟨bs,rb⟩:=h2.reads I ry
 have hu:=hr.units
 exact SeqAt.compareEq_reads ra rb h3 h4 (by omega) ⟨.bl _,H,I,rfl,q⟩
theorem lB {k:Nat} (K:PySem.W.Frag) (h:X.K=K) (hr:fj k X.A):fq X (compareOp .NotEq) (LY K):=by
 subst h
 intro pins s σ H x y v u Q I rx ry h
 obtain ⟨dx,dy,h1,h2,⟨h3,h4⟩,h5,q⟩:=h
 obtain ⟨as,ra⟩:=h1.reads I rx
 obtain ⟨bs,rb⟩:=h2.reads I ry
 have hu:=hr.units
 exact SeqAt.compareNe_reads ra rb h3 h4 (by omega) ⟨.bl _,H,I,rfl,q⟩
noncomputable def G4 (K:PySem.W.Frag) (ta:TE):TT:=fun σ H Q=>ta σ H fun x H'=> ∃p xs,x= .ref p/\aT K H' p xs/\Q (!xs.isEmpty) H'
theorem AJ {a:Expr} {ta:TE} (K:PySem.W.Frag) (h:X.K=K) (ha:PE X a ta) (he: ∀whole,isTrue a X.env whole=(do let v <-whole;standAt a.pos;holding [v] (truthy v)):=by intro _;rfl):PT X a (G4 K ta):=by
 subst h
 intro pins s σ H Q I hw
 refine isTrue_plain (bU (ha pins s σ H _ I hw) fun v s1 ⟨x,H1,I1,r1,q1⟩=>?_) (he _)
 obtain ⟨p,xs,rfl,hq,q⟩:=q1
 exact Dm pins s1 σ H1 _ v Q I1 r1 ⟨_, .inl ⟨xs,hq,rfl⟩,q⟩
theorem cm (K:PySem.W.Frag) (h:X.K=K) {es:List Expr} {k:Nat} {t:BN} {n:Nat} {pos:Pos} (hc:X.calm=true) (hs:Gi X es t)
  (hn:(assignEach es X.env).length=n:=by rfl) (La:(assignEach es X.env).findIdx? (·.1)=none:=by rfl):PG X (.Tuple es k pos) (Gm K n t):=by
 subst h
 exact De hc hs hn La
end
end L2
namespace L2
open PySem PySem.Spec PyProof.Rows
noncomputable def cx (a b:List Nat):List Nat:=if b<a then b else a
noncomputable def bP:List Nat->List (List Nat)->List Nat
 | a,[]=>a
 | a,b::r=>bP (cx a b) r
section
variable {X:Cx}
end
end L2
namespace L2
open PySem PySem.Spec PyProof.Rows
section
variable {X:Cx}
theorem r9 (K:PySem.W.Frag) (h:X.K=K):fq X (compareOp .In) (R8 K false):=by subst h;exact vA
structure xq (k n:Nat) (d:PyData):Prop where
 lv:d.leavesShort 13=true
 sh:d.showable=true
 ly:d.canLay0=true
 dp:d.depth<=k
 wt:d.weight<=n
structure mR (k n:Nat) (ds:List PyData):Prop where
 lv:PyData.leavesShortAll 13 ds=true
 sh:PyData.showableAll ds=true
 ly:PyData.canLayAll0 ds=true
 dp:PyData.depthAll ds<=k
 wt:PyData.weightAll ds<=n
theorem xq.str {k n:Nat} {l:List Nat} (h: ∀c∈l,c<128) (hn:l.length<=n):xq k n (.str (S l)):=by
 refine ⟨?_,rfl,?_,Nat.zero_le _,by show (S l).cps.size<=n;rw[gJ];exact hn⟩
 ·show ((S l).cps.toList.all fun c=>decide (c<16 ^ 8))=true
  rw[dY,List.all_eq_true]
  intro c hc
  have:=h c hc
  exact decide_eq_true (by omega)
 ·show PyData.strOk (S l)=true
  unfold PyData.strOk
  rw[Array.all_eq_true_iff_forall_mem]
  intro c hc
  have:c∈l:=by simpa [S]using hc
  have:=h c this
  simp;omega
theorem xq.int {k n:Nat} {i:Int} (h:i.natAbs<10 ^ 12) (hn:40<=n):xq k n (.int i):=by
 have hl:i.natAbs.log2<40:=by
  by_cases z:i.natAbs=0
  ·rw[z];decide
  ·rw[Nat.log2_lt z]
   exact Nat.lt_trans h (by decide)
 refine ⟨?_,?_,rfl,Nat.zero_le _,?_⟩
 ·show decide ((PyData.shown (.int i)).length<=13)=true
  exact decide_eq_true (PyData.shown_int_le h)
 ·show decide (i.natAbs.log2<1920)=true
  exact decide_eq_true (by omega)
 ·show (if i==0 then 0 else i.natAbs.log2+1)<=n
  split<;>omega
theorem mR.nil {k n:Nat}:mR k n []:=⟨rfl,rfl,rfl,Nat.zero_le _,Nat.zero_le _⟩
theorem mR.cons {k a b n:Nat} {x:PyData} {xs:List PyData} (h:xq k a x) (t:mR k b xs) (hn:a+1+b<=n):mR k n (x::xs):=by
 refine ⟨?_,?_,?_,?_,?_⟩
 ·show (PyData.leavesShort 13 x&&PyData.leavesShortAll 13 xs)=true;rw[h.lv,t.lv];rfl
 ·show (PyData.showable x&&PyData.showableAll xs)=true;rw[h.sh,t.sh];rfl
 ·show (PyData.canLay0 x&&PyData.canLayAll0 xs)=true;rw[h.ly,t.ly];rfl
 ·show max (PyData.depth x) (PyData.depthAll xs)<=k;exact Nat.max_le.mpr ⟨h.dp,t.dp⟩
 ·show PyData.weight x+1+PyData.weightAll xs<=n
  have:=h.wt;have:=t.wt;omega
theorem mR.all {k a:Nat}: ∀{xs:List PyData} {n:Nat},(∀x∈xs,xq k a x)->(a+1)*xs.length<=n->mR k n xs
 | [],_,_,_=> .nil
 | x::xs,n,h,hn=> .cons (b:=(a+1)*xs.length) (h x List.mem_cons_self) (mR.all (fun y hy=>h y (List.mem_cons_of_mem _ hy)) (Nat.le_refl _)) (by rw[List.length_cons,Nat.mul_succ]at hn;omega)
theorem xq.tup {k n:Nat} {ds:List PyData} (h:mR k n ds):xq (k+1) n (.tuple ds):=⟨h.lv,h.sh,h.ly,Nat.succ_le_succ h.dp,h.wt⟩
end
end L2
namespace L2
open PySem PySem.Spec PyProof.Rows
end L2
namespace L2
open PySem PySem.Spec PyProof.Rows
section
variable {X:Cx}
theorem AK:fq X (compareOp .IsNot) (fun x y H Q=> ∃c d,x= .bl c/\y= .bl d/\Q (.bl (c != d)) H):=by
 intro pins s σ H x y v u Q I rx ry h
 obtain ⟨c,d,rfl,rfl,q⟩:=h
 cases rx
 cases ry
 exact isnot_bool ⟨.bl _,H,I,rfl,q⟩
end
end L2
namespace L2
open PySem PySem.Spec PyProof.Rows
section
variable {X:Cx} {pins:List (Addr×Obj)} {σ:St} {H:Hp} {s:Shared} {h':Heap}
theorem Inv.gN {t':Nat} {ch:List Addr} {T:Addr} {ob:HO} (I:Inv X pins σ H s) (k: ∀b o,b∉ch->s.heap.get? b=some o->h'.get? b=some o) (hf: ∀b∈ch,km X pins H b)
  (hT:s.heap.objs.size<=T) (new:cI X.prog X.w (upd H T ob) h' T ob):Inv X pins σ (upd H T ob) { s with heap:=h',toks:=t' }:=by
 have hn:=I.bh.fresh hT
 have BK: ∀b u,H b=some u->b∉ch:=fun b u e z=>by rw[(hf b z).1]at e;cases e
 have neT: ∀b o,s.heap.get? b=some o->b≠T:=fun b o e z=>absurd (Nat.lt_of_lt_of_le (Heap.lt_size e) hT) (by rw[z];exact Nat.lt_irrefl _)
 refine I.step (g':=s.gens) (d':=s.drawn) (ch:=ch) (fun b hb=>?_) (fun b o _ _ hc e _=>k b o hc e) (fun b o _ _ hc e _=>⟨o.slots,k b o hc e⟩) (fun b o _ e n=>by rw[aq (neT b o e)];exact n)
  (fun b o hc e=>⟨o,k b o hc e⟩) (fun b xs e=>by rw[aq (ak e hn)];exact e) (fun b o u e=>by rw[aq (ak e hn)];exact e) (fun b ps e=>⟨#[],by rw[aq (ak e hn),e];simp⟩) (fun m hm=>?_) (fun b u e=>?_) I.bare
 ·obtain ⟨_,h2,_,h4,h5,h6⟩:=hf b hb
  exact ⟨h4,h2,h5,h6⟩
 ·obtain ⟨o,es,ep,ho,r⟩:=hm
  exact ⟨o,es,ep,k _ o (fun z=>(hf _ z).2.1 rfl) ho,r⟩
 ·by_cases hb:b=T
  ·subst hb;rw[ae]at e;cases e;exact new
  ·rw[aq hb]at e
   refine (I.bh b u e).pX (fun c v hc q=>k c v ?_ q) (fun c q=>by rw[aq (ak q hn)];exact q) fun c xs q=>by rw[aq (ak q hn)];exact q
   rcases hc with z | z
   ·rw[z];exact BK b u e
   ·exact BK c _ z
theorem Inv.je {t':Nat} {ch:List Addr} (I:Inv X pins σ H s) (k: ∀b o,b∉ch->s.heap.get? b=some o->h'.get? b=some o) (hf: ∀b∈ch,km X pins H b):Inv X pins σ H { s with heap:=h',toks:=t' }:=by
 have BK: ∀b u,H b=some u->b∉ch:=fun b u e z=>by rw[(hf b z).1]at e;cases e
 refine I.step (g':=s.gens) (d':=s.drawn) (ch:=ch) (fun b hb=>?_) (fun b o _ _ hc e _=>k b o hc e) (fun b o _ _ hc e _=>⟨o.slots,k b o hc e⟩) (fun b o _ e n=>n)
  (fun b o hc e=>⟨o,k b o hc e⟩) (fun b xs e=>e) (fun b o u e=>e) (fun b ps e=>⟨#[],by rw[e];simp⟩) (fun m hm=>?_) (fun b u e=>?_) I.bare
 ·obtain ⟨_,h2,_,h4,h5,h6⟩:=hf b hb
  exact ⟨h4,h2,h5,h6⟩
 ·obtain ⟨o,es,ep,ho,r⟩:=hm
  exact ⟨o,es,ep,k _ o (fun z=>(hf _ z).2.1 rfl) ho,r⟩
 ·refine (I.bh b u e).pX (fun c v hc q=>k c v ?_ q) (fun c q=>q) fun c xs q=>q
  rcases hc with z | z
  ·rw[z];exact BK b u e
  ·exact BK c _ z
end
noncomputable def Fy (l:List Nat):It:=⟨fun i _=>i<l.length,fun i H x H'=> ∃T c,l[i]? =some c/\x= .ref T/\H T=none/\H'=upd H T (.tup [.int i, .str (S [c])]),fun i _=>l.length<=i⟩
theorem nH {prog:Program} {w:World} {A:Around} (hh:A.handled=none) (it:Addr) (x:Str) (t:Tok):
  Draws prog w A it [it] x.cps.size (fun i v=> ∃c u,x.cps[i]? =some c/\v= .str ⟨#[c]⟩ u) (fun i h=>h.IsStrIter it (strIterType x) x t i):=by
 by_cases ha:x.cps.all (· <128)=true
 ·have et:strIterType x="str_ascii_iterator":=by unfold strIterType;rw[if_pos ha]
  rw[et];exact Draws.strAscii hh it x t
 ·have et:strIterType x="str_iterator":=by unfold strIterType;rw[if_neg ha]
  rw[et];exact Draws.strWide hh it x t
theorem r_ {P:Program} {w:World} {K:PySem.W.Frag} {elts:List Expr} {k:Nat} {pos:Pos} (e it:Addr) (um:e≠it) (l:List Nat) (t:Tok):
  Turn P w K (.Tuple elts k pos) (Fy l) [e,it] e (fun i h=>i<=l.length/\(∃old,IsEnum h e it i old)/\h.IsStrIter it (strIterType (S l)) (S l) t i) where
 mem:=by simp
 obj:=fun i h st b hb=>by
  obtain ⟨_,⟨old,he⟩,o,ho,hc,hd⟩:=st
  rcases List.mem_cons.mp hb with z | z
  ·rw[z];exact ⟨_,he,fun v z=>by cases z⟩
  ·rw[List.mem_singleton.mp z];exact ⟨o,ho,fun v z=>by rw[hd]at z;cases z⟩
 keep:=fun i h h' st kp=>by
  obtain ⟨h1,⟨old,he⟩,o,ho,r⟩:=st
  exact ⟨h1,⟨old,kp e (by simp) _ he⟩,o,kp it (by simp) o ho,r⟩
 item:=by
  intro X hP hw hK hc i pins s σ H E I hf st hg
  subst hP hw hK
  obtain ⟨_,qk,jE⟩:=st
  have D:=nH (prog:=X.prog) (w:=X.w) (A:=X.A.in1) (I.ok.hd hc) it (S l) t
  have W:=WalksT.enumerateD D e um (by simpa using um) (by simp)
  have hi:i<(S l).cps.size:=by rw[gJ];exact hg
  refine W.item i s _ _ hi ⟨qk,jE⟩ fun T vals h' tk G5 hT yc ql hk=>⟨_,rfl,?_⟩
  refine W.go elts k pos i T { s with heap:=h',toks:=tk } _ _ ql fun h2 qm zO=>?_
  obtain ⟨tt,x,⟨c,u,LZ,rfl⟩,rfl⟩:=G5
  have xr:T∉[e,it]:=W.apart i T h' ql
  have jf:h2.IsTuple T #[.int i tt, .str ⟨#[c]⟩ u]:=by
   obtain ⟨o,ho,r⟩:=yc
   exact ⟨o,zO T o xr ho,r⟩
  have hl:l[i]? =some c:=by simpa [S]using LZ
  refine ⟨.ref T,upd H T (.tup [.int i, .str (S [c])]),?_,rfl,⟨T,c,hl,rfl,I.bh.fresh hT,rfl⟩,⟨hg,qm.1,qm.2⟩,fun b hb=>?_⟩
  ·refine I.gN (t':=tk) (h':=h2) (fun b o hb y=>zO b o hb (hk b o hb y)) hf hT ?_
   exact ⟨by show 2<=sizeLine;decide,[.int i tt, .str ⟨#[c]⟩ u], .cons ⟨tt,rfl⟩ (.cons ⟨u,rfl⟩ .nil),jf⟩
  ·rw[aq (fun z:b=T=>xr (z▸hb))];exact (hf b hb).1
 done:=by
  intro X hP hw hK hc i pins s σ H E I hf st hg
  subst hP hw hK
  obtain ⟨h1,qk,jE⟩:=st
  have e1:i=l.length:=Nat.le_antisymm h1 hg
  have D:=nH (prog:=X.prog) (w:=X.w) (A:=X.A.in1) (I.ok.hd hc) it (S l) t
  have W:=WalksT.enumerateD D e um (by simpa using um) (by simp)
  refine W.done s _ _ ?_ fun h' tk hk=>⟨rfl,I.je (t':=tk) hk hf⟩
  rw[gJ, <-e1]
  exact ⟨qk,jE⟩
 self:=fun _ _ s _ _ st h=>by
  obtain ⟨_,⟨old,he⟩,_⟩:=st
  exact wpAny_pyIter_enum he h
noncomputable def DP (ta:TA):TI:=fun σ H R=>ta σ H fun vs H1=> ∃l,vs=[.str (S l)]/\R (Fy l) H1
theorem gO {X:Cx} {elts:List Expr} {k:Nat} {pos':Pos} {a:Expr} {ta:TA} {p pos:Pos} (hg:Gl X "enumerate") (hm:X.mg "enumerate"=none) (ha:PA X [a] ta) (hs:starEach [a] X.env=[(false,eval a X.env)]:=by rfl):PI X (.Tuple elts k pos') (.Call (.Name "enumerate" p) [a] [] pos) (DP ta):=by
 intro pins s σ H R I h
 refine Call_ (cJ I hg hm boot_enumerate (PyProof.Rows.callWith_type1 (bU (ha pos pins s σ H _ I h) fun us s1 ⟨vs,H1,I1,r1,q1⟩=>?_) hs rfl))
 obtain ⟨l,rfl,q⟩:=q1
 obtain ⟨u,rfl,t,rfl⟩:=vals1 r1
 refine call_enumerate_str fun h' he hit hsz hk=>?_
 refine wpAny_pyIter_enum he ?_
 refine ⟨s1.heap.objs.size+1,[s1.heap.objs.size+1,s1.heap.objs.size],_,_,H1,rfl,I1.kept (t':=s1.toks) hk,r_ _ _ (Nat.succ_ne_self _) l t,⟨Nat.zero_le _,⟨_,he⟩,hit⟩,fun b hb=>?_,q⟩
 have iI:s1.heap.objs.size<=b:=by
  rcases List.mem_cons.mp hb with z | z
  ·rw[z];exact Nat.le_succ _
  ·rw[List.mem_singleton.mp z];exact Nat.le_refl _
 exact I1.iZ iI (I1.bh.fresh iI)
theorem jg {l:List Nat} {g:TG} {tb:TS} {D:Ends} {σ:St} {H:Hp} (Pv:Nat->St->Hp->Prop) (h0:Pv 0 σ H)
  (hs: ∀i c σ H T,l[i]? =some c->Pv i σ H->H T=none->g (.ref T) σ (upd H T (.tup [.int i, .str (S [c])])) fun σ2 H2=>tb { D with nx:=Pv (i+1),ct:=Pv (i+1),bk:=D.nx } σ2 H2) (hd: ∀σ H,Pv l.length σ H->D.nx σ H):
  ∃W:Nat->Nat->St->Hp->Prop,(∃m,W 0 m σ H)/\ ∀i m σ H,W i m σ H->
   ((Fy l).stop i H/\D.nx σ H)\/((Fy l).go i H/\ ∃N:St->Hp->Prop,(∀σ' H',N σ' H'-> ∃m',m'<m/\W (i+1) m' σ' H')/\ ∀x H',(Fy l).ua i H x H'->g x σ H' fun σ2 H2=>tb { D with nx:=N,ct:=N,bk:=D.nx } σ2 H2):=by
 refine ⟨fun i m σ H=>m=l.length - i/\i<=l.length/\Pv i σ H,⟨l.length,by simp,Nat.zero_le _,h0⟩,?_⟩
 rintro i m σ H ⟨rfl,hi,p⟩
 by_cases cN:i<l.length
 ·refine .inr ⟨cN,Pv (i+1),fun σ' H' p'=>⟨l.length - (i+1),by omega,rfl,cN,p'⟩,fun x H' y=>?_⟩
  obtain ⟨T,c,hc,rfl,hn,rfl⟩:=y
  exact hs i c σ _ T hc p hn
 ·have e:i=l.length:=by omega
  subst e
  exact .inl ⟨Nat.le_refl _,hd σ H p⟩
section
variable {X:Cx}
theorem AL {ls:List (List Nat)}: ∀{ay:List Value},Vals (ls.map fun l=>V.str (S l)) ay->StrsAre ay (ls.map S):=by
 induction ls with
 | nil=>intro ay r;cases r;exact .nil
 | cons l ls ih=>
  intro ay r
  cases r with
  | cons r1 r2=>
   obtain ⟨t,rfl⟩:=r1
   exact .cons _ t (ih r2)
theorem uo: ∀{ay:List Value} {ss:List Str},StrsAre ay ss->Vals ((ss.map fun x=>x.cps.toList).map fun l=>V.str (S l)) ay
 | _,_, .nil=> .nil
 | _,_, .cons x t h=> .cons ⟨t,by rw[<-LO]⟩ (uo h)
theorem nI: ∀(p:Str) (r:List Str),risingS p r=true->(p::r).Pairwise fun a b=> ¬b.cps.toList<a.cps.toList
 | p,[],_=>List.pairwise_singleton _ _
 | p,x::r,h=>by
  have h':(!ltCps x.cps.toList p.cps.toList&&risingS x r)=true:=h
  rw[Bool.and_eq_true,ltCps_eq]at h'
  have h1: ¬x.cps.toList<p.cps.toList:=by simpa using h'.1
  have ih:=nI x r h'.2
  refine List.pairwise_cons.mpr ⟨fun y hy=>?_,ih⟩
  rcases List.mem_cons.mp hy with z | z
  ·rw[z];exact h1
  ·exact List.le_trans (show p.cps.toList<=x.cps.toList from h1) (show x.cps.toList<=y.cps.toList from List.rel_of_pairwise_cons ih z)
theorem vJ {ss:List Str} (h:sortedS ss=true):(ss.map fun x=>x.cps.toList).Pairwise fun a b=> ¬b<a:=by
 rw[List.pairwise_map]
 cases ss with
 | nil=>exact List.Pairwise.nil
 | cons x r=>exact nI x r h
noncomputable def DQ (K:PySem.W.Frag):List V->Hp->VK->Prop:=fun xs H Q=> ∃(p:Addr) (ls:List (List Nat)),xs=[.ref p]/\aT K H p (ls.map fun l=>V.str (S l))/\ls.length<64/\ ∀(q:Addr) (L0:List (List Nat)),H q=none->L0.Perm ls->(L0.Pairwise fun a b=> ¬b<a)->Q (.ref q) (upd H q (.lst (L0.map fun l=>V.str (S l))))
theorem jh (K:PySem.W.Frag) (h:X.K=K):cV X (.builtin "sorted") (DQ K):=by
 subst h
 intro pins s σ H xs us Q I r h
 obtain ⟨p,ls,rfl,hq,hn,q⟩:=h
 obtain ⟨u,rfl,ru⟩:=vals1 r
 cases ru
 obtain ⟨ay,rv,pl,hz⟩:=I.list hq
 have hlen:ay.length=ls.length:=by rw[<-rv.length,List.length_map]
 refine sorted_strs (l:=p) (vs:=ay) (ss:=ls.map S) pl.isList (AL rv) (by omega) fun out L1 h1 h2 h3=>?_
 obtain ⟨e,he⟩:=sortedAll_at s.heap ay out
 have uq:(L1.map fun x=>x.cps.toList).Perm ls:=by
  have:=h2.map fun x:Str=>x.cps.toList
  rw[List.map_map]at this
  have e2:ls.map ((fun x:Str=>x.cps.toList) ∘ S)=ls:=by
   have: ∀l∈ls,((fun x:Str=>x.cps.toList) ∘ S) l=l:=fun l _=>dY l
   calc ls.map _=ls.map id:=List.map_congr_left this
    _=ls:=List.map_id ls
  rwa [e2]at this
 have oS:=uq.length_eq
 have Fz:(64:Nat)<sizeLine:=by decide
 have JG:((L1.map fun x=>x.cps.toList).map fun l=>V.str (S l)).length<=sizeLine:=by rw[List.length_map,oS];omega
 refine ⟨.ref (s.heap.objs.size+1),_,I.laid (t':=s.toks) (a:=s.heap.objs.size+1) (o:= .lst ((L1.map fun x=>x.cps.toList).map fun l=>V.str (S l))) (fun b o e=>sortedAll_old e) (Nat.le_succ _) ⟨JG,out.toList,e,uo h1,by simpa [seqObj]using he⟩,rfl,q _ _ (I.bh.fresh (Nat.le_succ _)) uq (vJ h3)⟩
end
end L2
namespace L2
open PySem PySem.Spec PyProof.Rows
section
variable {X:Cx}
theorem ur {ls:List (List Nat)} {l:List Nat} (h:ls.Perm (l.map fun c=>[c])): ∃l':List Nat,ls=l'.map (fun c=>[c])/\l'.Perm l:=by
 refine ⟨ls.flatten,?_,?_⟩
 ·have hs: ∀x∈ls, ∃c,x=[c]:=fun x hx=>by
   obtain ⟨c,_,e⟩:=List.mem_map.mp (h.mem_iff.mp hx)
   exact ⟨c,e.symm⟩
  clear h
  induction ls with
  | nil=>rfl
  | cons x ls ih=>
   obtain ⟨c,rfl⟩:=hs x List.mem_cons_self
   rw[List.flatten_cons,List.map_append, <-ih fun y hy=>hs y (List.mem_cons_of_mem _ hy)]
   rfl
 ·have:=h.flatten
  have e:(l.map fun c=>[c]).flatten=l:=by
   clear h this
   induction l with
   | nil=>rfl
   | cons c l ih=>rw[List.map_cons,List.flatten_cons,ih];rfl
  rwa [e]at this
theorem uu {l:List Nat} (h:(l.map fun c=>[c]).Pairwise fun a b=> ¬b<a):l.Pairwise fun a b=>a<=b:=by
 rw[List.pairwise_map]at h
 refine h.imp fun {a b} z=>?_
 by_cases y:a<=b
 ·exact y
 ·exact absurd (List.cons_lt_cons_iff.mpr (.inl (by omega))) z
end
end L2
namespace L2
open PySem PySem.Spec PyProof.Rows
section
variable {X:Cx}
end
end L2
namespace L2
open PySem PySem.Spec PyProof.Rows
section
variable {prog:Program} {w:World} {A:Around} {E:Value->Shared->Prop} {s:Shared}
theorem se {it tp:Addr} {j:Nat} {xs:Array Value} {y:Value} {Q:Value->Shared->Prop} (hi:s.heap.IsTupleIter it tp j) (ht:s.heap.IsTuple tp xs) (hy:xs[j]? =some y)
  (q: ∀h2,h2.IsTupleIter it tp (j+1)->Heap.SameBut it s.heap h2->Q y { s with heap:=h2 }):wpAny (model prog w) A (Builtin.SmallTypes.nextOf (.ref it)) Q E s:=by
 obtain ⟨oi,eo,ec,ed⟩:=id hi
 obtain ⟨ot,et,_,nt,dt⟩:=ht
 unfold Builtin.SmallTypes.nextOf
 refine wpAny_bind (wpAny_callSpecial?_slot (name:=Str.ofString "__next__") hi.typeIs F.slot_tuple_iterator_next (wpAny_call_entry F.slot_tuple_iterator_next hi.typeIs F.entry_tuple_iterator_next ?_ (F.args_tuple_iterator_next_1 _)))
 refine wpAny_bind (m:=field (.ref it) 0) (wpAny_field eo ed (x:= .ref tp) rfl ?_)
 show wpAny (model prog w) _ (if (Value.ref tp==Value.none)=true then _ else _) _ E s
 rw[if_neg (show ¬(Value.ref tp==Value.none)=true from Bool.false_ne_true)]
 refine wpAny_bind (m:=field (.ref it) 1) (wpAny_field eo ed (x:= .int j 0) rfl ?_)
 refine wpAny_bind (m:=seqItems? (.ref tp)) (wpAny_seqItems et dt ?_)
 simp only[Int.toNat_natCast,hy]
 refine wpAny_bind (wpAny_setField eo ed (by simp) (wpAny_pure ⟨y,rfl,wpAny_pure (q _ ⟨_,Heap.get?_update_self _ eo (Obj.isFreed_of_fields (Obj.data_mapFields ed _)),(Obj.cls_mapFields ..).trans ec,by rw[Obj.data_mapFields ed];simp[rawInt]⟩ (Heap.SameBut.update ..))⟩))
theorem vK {it tp:Addr} {j:Nat} {xs:Array Value} {Q:Value->Shared->Prop} (hh:A.handled=none) (hi:s.heap.IsTupleIter it tp j) (ht:s.heap.IsTuple tp xs) (hy:xs[j]? =none)
  (q: ∀h2 e,Heap.ExtBut it s.heap h2->(∃o,h2.get? e=some o/\o.cls= .type "StopIteration")->E (.ref e) { s with heap:=h2 }):wpAny (model prog w) A (Builtin.SmallTypes.nextOf (.ref it)) Q E s:=by
 obtain ⟨oi,eo,ec,ed⟩:=id hi
 obtain ⟨ot,et,_,nt,dt⟩:=ht
 unfold Builtin.SmallTypes.nextOf
 refine wpAny_bind (wpAny_callSpecial?_slot (name:=Str.ofString "__next__") hi.typeIs F.slot_tuple_iterator_next (wpAny_call_entry F.slot_tuple_iterator_next hi.typeIs F.entry_tuple_iterator_next ?_ (F.args_tuple_iterator_next_1 _)))
 refine wpAny_bind (m:=field (.ref it) 0) (wpAny_field eo ed (x:= .ref tp) rfl ?_)
 show wpAny (model prog w) _ (if (Value.ref tp==Value.none)=true then _ else _) _ E s
 rw[if_neg (show ¬(Value.ref tp==Value.none)=true from Bool.false_ne_true)]
 refine wpAny_bind (m:=field (.ref it) 1) (wpAny_field eo ed (x:= .int j 0) rfl ?_)
 refine wpAny_bind (m:=seqItems? (.ref tp)) (wpAny_seqItems et dt ?_)
 simp only[Int.toNat_natCast,hy]
 refine wpAny_bind (wpAny_rule (wpAny_bind (wpAny_setField eo ed (by simp) ?_)))
 refine wpAny_bind (m:=newExc (.type "StopIteration") []) ?_
 simp only[newExc,newTuple]
 refine wpAny_bind (wpAny_newObj_type (wpAny_bind (m:=firstArgMember _ _) (wpAny_of_eq (a:=Value.none) (by first | rfl | (simp only[firstArgMember];rfl)) (wpAny_newObj_type ?_ (by size_fits)))) (by size_fits))
 simp only[raiseNew]
 refine wpAny_bind (wpAny_handled ?_);first | rw[show A.in1.handled=none from hh] | rw[hh]
 exact wpAny_bind (wpAny_pure (wpAny_throw (q _ _ (((Heap.SameBut.update ..).extBut.push _).push _) ⟨_,Heap.get?_push_size _ rfl,rfl⟩)))
theorem gP (hh:A.handled=none) (it tp:Addr) (ne:tp≠it) (xs:Array Value):
  Draws prog w A it [it,tp] xs.size (fun i v=>xs[i]? =some v) (fun i h=>h.IsTupleIter it tp i/\h.IsTuple tp xs) where
 live:=fun _ _ z=>let ⟨o,e,_⟩:=z.1;⟨o,e⟩
 frame:=fun _ _ _ z k=>by
  obtain ⟨⟨o,e,r⟩,o2,e2,r2⟩:=z
  exact ⟨⟨o,k it (by simp) o e,r⟩,o2,k tp (by simp) o2 e2,r2⟩
 item:=fun i s Q E hi z q=>se z.1 z.2 (y:=xs[i]) (by simp[hi]) fun h2 z2 sb=>q _ h2 s.toks (by simp[hi]) ⟨z2,z.2.extBut sb.extBut ne⟩ sb
 done:=fun s Q E z q=>vK hh z.1 z.2 (by simp) q
theorem qo (l:Addr) (items:Array Value) (n:Nat) (L3:Option Addr) (sl:Array (Option Value)):
  Meets (Builtin.«enumerate.__new__» ⟨[.type "enumerate", .ref l],[]⟩) (fun _ R s=>s.heap.get? l=some { cls:= .type "tuple",dict:=L3,data:= .seq items n,slots:=sl }/\
   R (.ok (.ret (.ref (s.heap.push { cls:= .type "tuple_iterator",data:= .fields #[.ref l, .int 0 0] }).objs.size)))
    { s with heap:=(s.heap.push { cls:= .type "tuple_iterator",data:= .fields #[.ref l, .int 0 0] }).push { cls:= .type "enumerate",data:= .fields #[.none, .bool false, .ref s.heap.objs.size,rawInt 0, .none, .none] } }):=
 .of_wp fun prog w A R s h=>by
  obtain ⟨hp,g,d,tk,os⟩:=s;obtain ⟨hl,q⟩:=h;have AM:=sub_enumerate
  have hT:Heap.IsTuple (Shared.heap ⟨hp,g,d,tk,os⟩) l items:=⟨_,hl,rfl,n,rfl⟩
  wp_walk using AutoSeq1.wpAny_loadPart' hl
  refine wpAny_stack_any fun st=>wpAny_pure ?_
  split
  ·rename_i c _ _ _ _ _
   cases (c==Value.type "enumerate")<;>(wp_walk using AutoSeq1.wpAny_loadPart' hl,wpAny_pyIter_tuple hT;exact ⟨_,rfl,q⟩)
  ·wp_walk using AutoSeq1.wpAny_loadPart' hl,wpAny_pyIter_tuple hT
   exact ⟨_,rfl,q⟩
theorem sf {l:Addr} {items:Array Value} {Q:Value->Shared->Prop} (hL:s.heap.IsTuple l items)
  (h: ∀h',IsEnum h' (s.heap.objs.size+1) s.heap.objs.size 0 .none->h'.IsTupleIter s.heap.objs.size l 0->(∀b o,s.heap.get? b=some o->h'.get? b=some o)->Q (.ref (s.heap.objs.size+1)) { s with heap:=h' }):
  wpAny (model prog w) A (call (.type "enumerate") [.ref l]) Q E s:=by
 obtain ⟨⟨c,L3,dt,sl⟩,hl,hc,n,hd⟩:=hL
 cases (show c= .type "tuple" from hc)
 cases (show dt= .seq items n from hd)
 refine callType_new F.called_enumerate (by decide) (F.typeCall_enumerate_1 _) (F.newCall_enumerate_1 _) (fun ob=>F.args_object_init_2 ob _) F.entry_enumerate_new (qo l items n L3 sl) ⟨hl,?_⟩
 have hz:(s.heap.push { cls:= .type "tuple_iterator",data:= .fields #[.ref l, .int 0 0] }).objs.size=s.heap.objs.size+1:=Heap.size_push ..
 show _/\_
 rw[hz]
 have he:IsEnum ((s.heap.push { cls:= .type "tuple_iterator",data:= .fields #[.ref l, .int 0 0] }).push { cls:= .type "enumerate",data:= .fields #[.none, .bool false, .ref s.heap.objs.size,rawInt 0, .none, .none] }) (s.heap.objs.size+1) s.heap.objs.size 0 .none:=by
  have:=Heap.get?_push_size (s.heap.push { cls:= .type "tuple_iterator",data:= .fields #[.ref l, .int 0 0] }) (o:={ cls:= .type "enumerate",data:= .fields #[.none, .bool false, .ref s.heap.objs.size,rawInt 0, .none, .none] }) rfl
  rwa [hz]at this
 exact ⟨⟨_,he,rfl⟩,h _ he ⟨_,Heap.get?_push_of_some _ (Heap.get?_push_size _ rfl),rfl,rfl⟩ fun b o x=>Heap.get?_push_of_some _ (Heap.get?_push_of_some _ x)⟩
end
noncomputable def ye (K:PySem.W.Frag) (a:Addr):It:=⟨fun i H=> ∃xs x,aW K H a xs/\xs[i]? =some x,fun i H x H'=> ∃T y,(∀xs,aW K H a xs->xs[i]? =some y)/\x= .ref T/\H T=none/\H'=upd H T (.tup [.int i,y]),fun i H=> ∃xs,aW K H a xs/\xs.length=i⟩
noncomputable def vL (K:PySem.W.Frag) (a:Addr):It:=⟨fun i H=> ∃xs x,aT K H a xs/\xs[i]? =some x,fun i H x H'=> ∃T y,(∀xs,aT K H a xs->xs[i]? =some y)/\x= .ref T/\H T=none/\H'=upd H T (.tup [.int i,y]),fun i H=> ∃xs,aT K H a xs/\xs.length=i⟩
theorem sg {P:Program} {w:World} {K:PySem.W.Frag} {elts:List Expr} {k:Nat} {pos:Pos} (e it a:Addr) (um:e≠it) (G6:a≠e) (G7:a≠it):
  Turn P w K (.Tuple elts k pos) (ye K a) [e,it] e (fun i h=>(∃old,IsEnum h e it i old)/\h.IsTupleIter it a i) where
 mem:=by simp
 obj:=fun i h st b hb=>by
  obtain ⟨⟨old,he⟩,o,ho,hc,hd⟩:=st
  rcases List.mem_cons.mp hb with z | z
  ·rw[z];exact ⟨_,he,fun v z=>by cases z⟩
  ·rw[List.mem_singleton.mp z];exact ⟨o,ho,fun v z=>by rw[hd]at z;cases z⟩
 keep:=fun i h h' st kp=>by
  obtain ⟨⟨old,he⟩,o,ho,r⟩:=st
  exact ⟨⟨old,kp e (by simp) _ he⟩,o,kp it (by simp) o ho,r⟩
 item:=by
  intro X hP hw hK hc i pins s σ H E I hf st hg
  subst hP hw hK
  obtain ⟨qk,jE⟩:=st
  obtain ⟨xs,x,hq,hx⟩:=hg
  obtain ⟨ay,rv,p,hz⟩:=I.tuple hq
  obtain ⟨u0,hu,ru⟩:=rv.get hx
  have D:=gP (prog:=X.prog) (w:=X.w) (A:=X.A.in1) (I.ok.hd hc) it a G7 ay.toArray
  have W:=WalksT.enumerateD D e um (by simp;exact ⟨um,Ne.symm G6⟩) (by simp)
  have DR:i<ay.toArray.size:=by rw[List.size_toArray];exact (List.getElem?_eq_some_iff.mp hu).1
  refine W.item i s _ _ DR ⟨qk,jE,p⟩ fun T vals h' tk G5 hT yc ql hk=>⟨_,rfl,?_⟩
  refine W.go elts k pos i T { s with heap:=h',toks:=tk } _ _ ql fun h2 qm zO=>?_
  obtain ⟨tt,x2,DS,rfl⟩:=G5
  have ex:x2=u0:=by
   rw[List.getElem?_toArray]at DS
   exact Option.some.inj (DS.symm.trans hu)
  subst ex
  have xr:T∉[e,it]:=W.apart i T h' ql
  have jf:h2.IsTuple T #[.int i tt,x2]:=by
   obtain ⟨o,ho,r⟩:=yc
   exact ⟨o,zO T o xr ho,r⟩
  refine ⟨.ref T,upd H T (.tup [.int i,x]),?_,rfl,⟨T,x,fun ys hy=>by rw[I.jJ hy hq];exact hx,rfl,I.bh.fresh hT,rfl⟩,⟨qm.1,qm.2.1⟩,fun b hb=>?_⟩
  ·refine I.gN (t':=tk) (h':=h2) (fun b o hb y=>zO b o hb (hk b o hb y)) hf hT ?_
   exact ⟨by show 2<=sizeLine;decide,[.int i tt,x2], .cons ⟨tt,rfl⟩ (.cons ru .nil),jf⟩
  ·rw[aq (fun z:b=T=>xr (z▸hb))];exact (hf b hb).1
 done:=by
  intro X hP hw hK hc i pins s σ H E I hf st hg
  subst hP hw hK
  obtain ⟨qk,jE⟩:=st
  obtain ⟨xs,hq,hx⟩:=hg
  obtain ⟨ay,rv,p,hz⟩:=I.tuple hq
  have hl:=rv.length
  have D:=gP (prog:=X.prog) (w:=X.w) (A:=X.A.in1) (I.ok.hd hc) it a G7 ay.toArray
  have W:=WalksT.enumerateD D e um (by simp;exact ⟨um,Ne.symm G6⟩) (by simp)
  refine W.done s _ _ ?_ fun h' tk hk=>⟨rfl,I.je (t':=tk) hk hf⟩
  have e1:ay.toArray.size=i:=by rw[List.size_toArray];omega
  rw[e1]
  exact ⟨qk,jE,p⟩
 self:=fun _ _ s _ _ st h=>by
  obtain ⟨⟨old,he⟩,_⟩:=st
  exact wpAny_pyIter_enum he h
theorem si {P:Program} {w:World} {K:PySem.W.Frag} {elts:List Expr} {k:Nat} {pos:Pos} (e it a:Addr) (um:e≠it) (G6:a≠e) (G7:a≠it):
  Turn P w K (.Tuple elts k pos) (vL K a) [e,it] e (fun i h=>(∃old,IsEnum h e it i old)/\h.IsListIter it a i) where
 mem:=by simp
 obj:=fun i h st b hb=>by
  obtain ⟨⟨old,he⟩,o,ho,hc,hd⟩:=st
  rcases List.mem_cons.mp hb with z | z
  ·rw[z];exact ⟨_,he,fun v z=>by cases z⟩
  ·rw[List.mem_singleton.mp z];exact ⟨o,ho,fun v z=>by rw[hd]at z;cases z⟩
 keep:=fun i h h' st kp=>by
  obtain ⟨⟨old,he⟩,o,ho,r⟩:=st
  exact ⟨⟨old,kp e (by simp) _ he⟩,o,kp it (by simp) o ho,r⟩
 item:=by
  intro X hP hw hK hc i pins s σ H E I hf st hg
  subst hP hw hK
  obtain ⟨qk,jE⟩:=st
  obtain ⟨xs,x,hq,hx⟩:=hg
  obtain ⟨ay,rv,p,hz⟩:=I.list hq
  obtain ⟨u0,hu,ru⟩:=rv.get hx
  have D:=Draws.list (prog:=X.prog) (w:=X.w) (A:=X.A.in1) (I.ok.hd hc) it a G7 ay.toArray
  have W:=WalksT.enumerateD D e um (by simp;exact ⟨um,Ne.symm G6⟩) (by simp)
  have DR:i<ay.toArray.size:=by rw[List.size_toArray];exact (List.getElem?_eq_some_iff.mp hu).1
  refine W.item i s _ _ DR ⟨qk,jE,p.isList⟩ fun T vals h' tk G5 hT yc ql hk=>⟨_,rfl,?_⟩
  refine W.go elts k pos i T { s with heap:=h',toks:=tk } _ _ ql fun h2 qm zO=>?_
  obtain ⟨tt,x2,DS,rfl⟩:=G5
  have ex:x2=u0:=by
   rw[List.getElem?_toArray]at DS
   exact Option.some.inj (DS.symm.trans hu)
  subst ex
  have xr:T∉[e,it]:=W.apart i T h' ql
  have jf:h2.IsTuple T #[.int i tt,x2]:=by
   obtain ⟨o,ho,r⟩:=yc
   exact ⟨o,zO T o xr ho,r⟩
  refine ⟨.ref T,upd H T (.tup [.int i,x]),?_,rfl,⟨T,x,fun ys hy=>by rw[I.kN hy hq];exact hx,rfl,I.bh.fresh hT,rfl⟩,⟨qm.1,qm.2.1⟩,fun b hb=>?_⟩
  ·refine I.gN (t':=tk) (h':=h2) (fun b o hb y=>zO b o hb (hk b o hb y)) hf hT ?_
   exact ⟨by show 2<=sizeLine;decide,[.int i tt,x2], .cons ⟨tt,rfl⟩ (.cons ru .nil),jf⟩
  ·rw[aq (fun z:b=T=>xr (z▸hb))];exact (hf b hb).1
 done:=by
  intro X hP hw hK hc i pins s σ H E I hf st hg
  subst hP hw hK
  obtain ⟨qk,jE⟩:=st
  obtain ⟨xs,hq,hx⟩:=hg
  obtain ⟨ay,rv,p,hz⟩:=I.list hq
  have hl:=rv.length
  have D:=Draws.list (prog:=X.prog) (w:=X.w) (A:=X.A.in1) (I.ok.hd hc) it a G7 ay.toArray
  have W:=WalksT.enumerateD D e um (by simp;exact ⟨um,Ne.symm G6⟩) (by simp)
  refine W.done s _ _ ?_ fun h' tk hk=>⟨rfl,I.je (t':=tk) hk hf⟩
  have e1:ay.toArray.size=i:=by rw[List.size_toArray];omega
  rw[e1]
  exact ⟨qk,jE,p.isList⟩
 self:=fun _ _ s _ _ st h=>by
  obtain ⟨⟨old,he⟩,_⟩:=st
  exact wpAny_pyIter_enum he h
noncomputable def DT (K:PySem.W.Frag) (ta:TA):TI:=fun σ H R=>ta σ H fun vs H1=> ∃a,vs=[.ref a]/\(∃xs,aW K H1 a xs)/\R (ye K a) H1
noncomputable def DU (K:PySem.W.Frag) (ta:TA):TI:=fun σ H R=>ta σ H fun vs H1=> ∃a,vs=[.ref a]/\(∃xs,aT K H1 a xs)/\R (vL K a) H1
theorem fA {X:Cx} (K:PySem.W.Frag) (hK:X.K=K) {elts:List Expr} {k:Nat} {pos':Pos} {a:Expr} {ta:TA} {p pos:Pos} (hg:Gl X "enumerate") (hm:X.mg "enumerate"=none) (ha:PA X [a] ta) (hs:starEach [a] X.env=[(false,eval a X.env)]:=by rfl):PI X (.Tuple elts k pos') (.Call (.Name "enumerate" p) [a] [] pos) (DT K ta):=by
 subst hK
 intro pins s σ H R I h
 refine Call_ (cJ I hg hm boot_enumerate (PyProof.Rows.callWith_type1 (bU (ha pos pins s σ H _ I h) fun us s1 ⟨vs,H1,I1,r1,q1⟩=>?_) hs rfl))
 obtain ⟨b,rfl,⟨xs,hq⟩,q⟩:=q1
 obtain ⟨u,rfl,ru⟩:=vals1 r1
 cases ru
 obtain ⟨ay,rv,pl,hz⟩:=I1.tuple hq
 obtain ⟨ob,eb,_⟩:=id pl
 have cN:b<s1.heap.objs.size:=Heap.lt_size eb
 refine sf pl fun h' he hit hk=>wpAny_pyIter_enum he ?_
 refine ⟨s1.heap.objs.size+1,[s1.heap.objs.size+1,s1.heap.objs.size],_,_,H1,rfl,I1.kept (t':=s1.toks) hk,sg _ _ b (Nat.succ_ne_self _) (Nat.ne_of_lt (Nat.lt_succ_of_lt cN)) (Nat.ne_of_lt cN),⟨⟨_,he⟩,hit⟩,fun c hb=>?_,q⟩
 have iI:s1.heap.objs.size<=c:=by
  rcases List.mem_cons.mp hb with z | z
  ·rw[z];exact Nat.le_succ _
  ·rw[List.mem_singleton.mp z];exact Nat.le_refl _
 exact I1.iZ iI (I1.bh.fresh iI)
theorem qp {X:Cx} (K:PySem.W.Frag) (hK:X.K=K) {elts:List Expr} {k:Nat} {pos':Pos} {a:Expr} {ta:TA} {p pos:Pos} (hg:Gl X "enumerate") (hm:X.mg "enumerate"=none) (ha:PA X [a] ta) (hs:starEach [a] X.env=[(false,eval a X.env)]:=by rfl):PI X (.Tuple elts k pos') (.Call (.Name "enumerate" p) [a] [] pos) (DU K ta):=by
 subst hK
 intro pins s σ H R I h
 refine Call_ (cJ I hg hm boot_enumerate (PyProof.Rows.callWith_type1 (bU (ha pos pins s σ H _ I h) fun us s1 ⟨vs,H1,I1,r1,q1⟩=>?_) hs rfl))
 obtain ⟨b,rfl,⟨xs,hq⟩,q⟩:=q1
 obtain ⟨u,rfl,ru⟩:=vals1 r1
 cases ru
 obtain ⟨ay,rv,pl,hz⟩:=I1.list hq
 obtain ⟨ob,eb,_⟩:=id pl.isList
 have cN:b<s1.heap.objs.size:=Heap.lt_size eb
 refine call_enumerate_list pl.isList fun h' he hit hsz hk=>wpAny_pyIter_enum he ?_
 refine ⟨s1.heap.objs.size+1,[s1.heap.objs.size+1,s1.heap.objs.size],_,_,H1,rfl,I1.kept (t':=s1.toks) hk,si _ _ b (Nat.succ_ne_self _) (Nat.ne_of_lt (Nat.lt_succ_of_lt cN)) (Nat.ne_of_lt cN),⟨⟨_,he⟩,hit⟩,fun c hb=>?_,q⟩
 have iI:s1.heap.objs.size<=c:=by
  rcases List.mem_cons.mp hb with z | z
  ·rw[z];exact Nat.le_succ _
  ·rw[List.mem_singleton.mp z];exact Nat.le_refl _
 exact I1.iZ iI (I1.bh.fresh iI)
theorem eG {K:PySem.W.Frag} {a:Addr} {xs:List V} {g:TG} {tb:TS} {D:Ends} {σ:St} {H:Hp} (Pv:Nat->St->Hp->Prop) (h0:Pv 0 σ H) (hl: ∀i σ H,i<=xs.length->Pv i σ H->aW K H a xs)
  (hs: ∀i x σ H T,xs[i]? =some x->Pv i σ H->H T=none->g (.ref T) σ (upd H T (.tup [.int i,x])) fun σ2 H2=>tb { D with nx:=Pv (i+1),ct:=Pv (i+1),bk:=D.nx } σ2 H2) (hd: ∀σ H,Pv xs.length σ H->D.nx σ H):
  ∃W:Nat->Nat->St->Hp->Prop,(∃m,W 0 m σ H)/\ ∀i m σ H,W i m σ H->
   ((ye K a).stop i H/\D.nx σ H)\/((ye K a).go i H/\ ∃N:St->Hp->Prop,(∀σ' H',N σ' H'-> ∃m',m'<m/\W (i+1) m' σ' H')/\ ∀x H',(ye K a).ua i H x H'->g x σ H' fun σ2 H2=>tb { D with nx:=N,ct:=N,bk:=D.nx } σ2 H2):=by
 refine ⟨fun i m σ H=>m=xs.length - i/\i<=xs.length/\Pv i σ H,⟨xs.length,by simp,Nat.zero_le _,h0⟩,?_⟩
 rintro i m σ H ⟨rfl,hi,p⟩
 have hq:=hl i σ H hi p
 by_cases cN:i<xs.length
 ·refine .inr ⟨⟨xs,xs[i],hq,by simp[cN]⟩,Pv (i+1),fun σ' H' p'=>⟨xs.length - (i+1),by omega,rfl,cN,p'⟩,fun x H' y=>?_⟩
  obtain ⟨T,z,hz,rfl,hn,rfl⟩:=y
  exact hs i z σ _ T (hz xs hq) p hn
 ·have e:i=xs.length:=by omega
  subst e
  exact .inl ⟨⟨xs,hq,rfl⟩,hd σ H p⟩
theorem vM {K:PySem.W.Frag} {a:Addr} {xs:List V} {g:TG} {tb:TS} {D:Ends} {σ:St} {H:Hp} (Pv:Nat->St->Hp->Prop) (h0:Pv 0 σ H) (hl: ∀i σ H,i<=xs.length->Pv i σ H->aT K H a xs)
  (hs: ∀i x σ H T,xs[i]? =some x->Pv i σ H->H T=none->g (.ref T) σ (upd H T (.tup [.int i,x])) fun σ2 H2=>tb { D with nx:=Pv (i+1),ct:=Pv (i+1),bk:=D.nx } σ2 H2) (hd: ∀σ H,Pv xs.length σ H->D.nx σ H):
  ∃W:Nat->Nat->St->Hp->Prop,(∃m,W 0 m σ H)/\ ∀i m σ H,W i m σ H->
   ((vL K a).stop i H/\D.nx σ H)\/((vL K a).go i H/\ ∃N:St->Hp->Prop,(∀σ' H',N σ' H'-> ∃m',m'<m/\W (i+1) m' σ' H')/\ ∀x H',(vL K a).ua i H x H'->g x σ H' fun σ2 H2=>tb { D with nx:=N,ct:=N,bk:=D.nx } σ2 H2):=by
 refine ⟨fun i m σ H=>m=xs.length - i/\i<=xs.length/\Pv i σ H,⟨xs.length,by simp,Nat.zero_le _,h0⟩,?_⟩
 rintro i m σ H ⟨rfl,hi,p⟩
 have hq:=hl i σ H hi p
 by_cases cN:i<xs.length
 ·refine .inr ⟨⟨xs,xs[i],hq,by simp[cN]⟩,Pv (i+1),fun σ' H' p'=>⟨xs.length - (i+1),by omega,rfl,cN,p'⟩,fun x H' y=>?_⟩
  obtain ⟨T,z,hz,rfl,hn,rfl⟩:=y
  exact hs i z σ _ T (hz xs hq) p hn
 ·have e:i=xs.length:=by omega
  subst e
  exact .inl ⟨⟨xs,hq,rfl⟩,hd σ H p⟩
theorem vN {l:List Nat} {σc:St} {g:TG} {tc:TT} {te:TE} {Q:VK} {H1:Hp} (Pv:Nat->List V->Hp->Prop) (hn:l.length<sizeLine) (h0:Pv 0 [] H1)
  (hs: ∀(i c:Nat) (acc:List V) (H:Hp) (T:Addr) (Nx:List V->Hp->Prop),l[i]? =some c->acc.length<=i->Pv i acc H->H T=none->(∀bu H',bu.length<=i+1->Pv (i+1) bu H'->Nx bu H')->
   g (.ref T) σc (upd H T (.tup [.int i, .str (S [c])])) fun σ2 H2=>Wk σc σ2/\tc σ2 H2 fun b H3=>if b=true then te σ2 H3 fun v H4=>Nx (acc++[v]) H4 else Nx acc H3)
  (hd: ∀acc H D,acc.length<=l.length->Pv l.length acc H->H D=none->Q (.ref D) (upd H D (.lst acc))):jb (Fy l) σc g tc te Q H1:=by
 refine ⟨fun i m acc H=>m=l.length - i/\i<=l.length/\acc.length<=i/\Pv i acc H,⟨l.length,by simp,Nat.zero_le _,Nat.le_refl _,h0⟩,?_⟩
 rintro i m acc H ⟨rfl,hi,hl,p⟩
 refine ⟨by omega,?_⟩
 by_cases cN:i<l.length
 ·refine .inr ⟨cN,fun x H' y=>?_⟩
  obtain ⟨T,c,hc,rfl,hT,rfl⟩:=y
  exact hs i c acc _ T (fun bu H'=> ∃m',m'<l.length - i/\(m'=l.length - (i+1)/\i+1<=l.length/\bu.length<=i+1/\Pv (i+1) bu H')) hc hl p hT fun bu H' h1 h2=>⟨l.length - (i+1),by omega,rfl,cN,h1,h2⟩
 ·have e:i=l.length:=by omega
  subst e
  exact .inl ⟨Nat.le_refl _,fun D hD=>hd acc H D hl p hD⟩
section
variable {X:Cx}
noncomputable def yf (K:PySem.W.Frag):List V->Hp->VK->Prop:=fun xs H Q=>(∃l:List Nat,xs=[.str (S l)]/\l.length<=sizeLine/\ ∀p,H p=none->Q (.ref p) (upd H p (.lst (bY l))))\/uj K xs H Q
theorem oY (K:PySem.W.Frag) (h:X.K=K) (hc:X.calm=true):cV X (.type "list") (yf K):=by
 intro pins s σ H xs us Q I r q
 rcases q with q | q
 ·exact iG hc pins s σ H xs us Q I r q
 ·exact cR K h pins s σ H xs us Q I r q
end
end L2
namespace L2
open PySem PySem.Spec PyProof.Rows
section
variable {X:Cx}
noncomputable def DV (K:PySem.W.Frag):List V->Hp->VK->Prop:=fun xs H Q=> ∃p ys,xs=[.ref p]/\((aT K H p ys/\ ∀l,H l=none->Q (.ref l) (upd H l (.tup ys)))\/(aW K H p ys/\Q (.ref p) H))
theorem bJ (K:PySem.W.Frag) (h:X.K=K):cV X (.type "tuple") (DV K):=by subst h;exact mN
theorem yg (K:PySem.W.Frag) (h:X.K=K):fq X (binaryOp .Add) (BX K):=by subst h;exact Aq
end
end L2
namespace L2
open PySem PySem.Spec PyProof.Rows
theorem qq {K:PySem.W.Frag} {a:Addr} {xs:List V} {σc:St} {g:TG} {tc:TT} {te:TE} {Q:VK} {H1:Hp} (Pv:Nat->List V->Hp->Prop) (hn:xs.length<sizeLine) (hl: ∀i acc H,Pv i acc H->aW K H a xs) (h0:Pv 0 [] H1)
  (hs: ∀(i:Nat) (x:V) (acc:List V) (H:Hp) (Nx:List V->Hp->Prop),i<xs.length->xs[i]? =some x->acc.length<=i->Pv i acc H->(∀bu H',bu.length<=i+1->Pv (i+1) bu H'->Nx bu H')->
   g x σc H fun σ2 H2=>Wk σc σ2/\tc σ2 H2 fun b H3=>if b=true then te σ2 H3 fun v H4=>Nx (acc++[v]) H4 else Nx acc H3)
  (hd: ∀acc H D,acc.length<=xs.length->Pv xs.length acc H->H D=none->Q (.ref D) (upd H D (.lst acc))):jb (Lf K a) σc g tc te Q H1:=
 kF (xs:=fun i x=>xs[i]? =some x) Pv hn (fun i acc H h p=>⟨xs,xs[i],hl i acc H p,by simp[h]⟩) (fun acc H p=>⟨xs,hl _ acc H p,Nat.le_refl _⟩) (fun i acc H x H' h p y=>⟨y.1,y.2 xs (hl i acc H p)⟩) h0 hs hd
theorem uv (l a b:Nat):Av (.str (S [l])) [.str (S [a]), .str (S [b])]=(decide (l=a)||decide (l=b)):=by
 have key: ∀c:Nat,zM (.str (S [c])) (.str (S [l]))=decide (l=c):=fun c=>by
  show decide (S [c]=S [l])=_
  refine decide_eq_decide.mpr ⟨fun z=>?_,fun z=>by rw[z]⟩
  have:=congrArg (fun x:Str=>x.cps.toList) z
  simpa [S,eq_comm]using this
 unfold Av
 rw[List.any_cons,List.any_cons,List.any_nil,key,key,Bool.or_false]
theorem AN (e:Nat) (l:List Nat):Av (.str (S [e])) (bY l)=decide (e∈l):=by
 have key: ∀c:Nat,zM (.str (S [c])) (.str (S [e]))=decide (e=c):=fun c=>by
  show decide (S [c]=S [e])=_
  refine decide_eq_decide.mpr ⟨fun z=>?_,fun z=>by rw[z]⟩
  have:=congrArg (fun x:Str=>x.cps.toList) z
  simpa [S,eq_comm]using this
 unfold Av bY
 induction l with
 | nil=>rfl
 | cons c l ih=>
  rw[List.map_cons,List.any_cons,ih,key]
  by_cases z:e=c<;>simp[z]
theorem yh (l:List Nat):(bY l).all i5=true:=by
 rw[List.all_eq_true];intro v hv
 obtain ⟨d,_,rfl⟩:=List.mem_map.mp hv
 rfl
noncomputable def aF (H H':Hp):Prop:= ∀c xs,H c=some (.tup xs)->H' c=some (.tup xs)
theorem aF.trans {H H1 H2:Hp} (a:aF H H1) (b:aF H1 H2):aF H H2:=fun c xs h=>b c xs (a c xs h)
theorem aF.of {H H':Hp} (s:ah H H'):aF H H':=fun c xs h=>s c _ h
theorem aF.fR {H:Hp} {p:Addr} {ys:List V} {o:HO} (h:H p=some (.lst ys)):aF H (upd H p o):=fun c xs e=>by
 rw[aq (fun z=>by rw[z,h]at e;cases e)];exact e
theorem aF.du {H:Hp} {p:Addr} {o:HO} (h:H p=none):aF H (upd H p o):=fun c xs e=>by
 rw[aq (fun z=>by rw[z,h]at e;cases e)];exact e
end L2
namespace L2
open PySem PySem.Spec PyProof.Rows
section
variable {prog:Program} {w:World} {A:Around} {E:Value->Shared->Prop} {s:Shared}
noncomputable def iJ (h:Heap) (v:Value) (n:Int×Int):Prop:= ∃x ox t1 t2 m,v= .ref x/\h.get? x=some ox/\ox.cls= .type "tuple"/\ox.data= .seq #[.int n.1 t1, .int n.2 t2] m
noncomputable def bE (x y:Int×Int):Bool:=decide (x.1<y.1)||(decide (x.1=y.1)&&decide (x.2<y.2))
theorem iJ.keep {h h':Heap} {v:Value} {n:Int×Int} (p:iJ h v n) (k: ∀b o,h.get? b=some o->h'.get? b=some o):iJ h' v n:=by
 obtain ⟨x,ox,t1,t2,m,e1,e2,r⟩:=p
 exact ⟨x,ox,t1,t2,m,e1,k _ _ e2,r⟩
theorem AO {u v:Value} {a c:Int×Int} {Q:Bool->Shared->Prop} (hx:iJ s.heap u a) (hy:iJ s.heap v c) (q:Q (bE a c) s):wpAny (model prog w) A (keyLt' (tuples' true) u v) Q E s:=by
 obtain ⟨x,ox,t1,t2,n,rfl,gx,_,dx⟩:=hx
 obtain ⟨y,oy,t3,t4,k,rfl,gy,_,dy⟩:=hy
 refine PySem.W.kat_lt gx dx gy dy ?_
 refine PySem.W.kat_cons (wpAny_eqBool_int ?_)
 unfold bE at q
 by_cases h:a.1=c.1
 ·rw[show (a.1==c.1)=true by simp[h]]
  refine PySem.W.kat_yes (PySem.W.kat_cons (wpAny_eqBool_int ?_))
  by_cases h2:a.2=c.2
  ·rw[show (a.2==c.2)=true by simp[h2]]
   refine PySem.W.kat_yes (PySem.W.kat_nil ?_)
   simpa [h,h2]using q
  ·rw[show (a.2==c.2)=false by simp[h2]]
   refine PySem.W.kat_no (PySem.W.kat_one _ _ (lt_int ?_))
   show Q (decide (a.2<c.2)) s
   simpa [h]using q
 ·rw[show (a.1==c.1)=false by simp[h]]
  refine PySem.W.kat_no ?_
  show wpAny (model prog w) A (keyLt' oneType' _ _) Q _ s
  refine PySem.W.kat_lt_int ?_
  simpa [h]using q
noncomputable def bA (h:Heap):List Value->List (Int×Int)->Prop
 | [],[]=>True
 | v::vs,n::ns=>iJ h v n/\bA h vs ns
 | _,_=>False
theorem bA.keep {h h':Heap} (k: ∀b o,h.get? b=some o->h'.get? b=some o): ∀{vs:List Value} {ns:List (Int×Int)},bA h vs ns->bA h' vs ns
 | [],[],_=>trivial
 | _::_,_::_,⟨a,b⟩=>⟨a.keep k,bA.keep k b⟩
theorem bA.get {h:Heap}: ∀{vs:List Value} {ns:List (Int×Int)} {i:Nat},bA h vs ns->(hi:i<vs.length)-> ∃n,ns[i]? =some n/\iJ h (vs.getD i Value.none) n
 | [],[],i,_,hi=>absurd hi (Nat.not_lt_zero _)
 | v::vs,n::ns,0,⟨a,_⟩,_=>⟨n,rfl,a⟩
 | v::vs,n::ns,i+1,⟨_,b⟩,hi=>by
  obtain ⟨m,e,p⟩:=bA.get (i:=i) b (Nat.lt_of_succ_lt_succ hi)
  exact ⟨m,e,p⟩
theorem bA.jH {h:Heap}: ∀{vs:List Value} {ns:List (Int×Int)},bA h vs ns-> ∃fs,PySem.W.KatTups h vs fs/\fs.length=vs.length/\ ∀v∈fs, ∃i t,v=Value.int i t
 | [],[],_=>⟨[],trivial,rfl,fun _ h=>absurd h List.not_mem_nil⟩
 | v::vs,n::ns,⟨⟨x,ox,t1,t2,m,e1,e2,e3,e4⟩,b⟩=>by
  obtain ⟨fs,k1,k2,k3⟩:=bA.jH b
  refine ⟨.int n.1 t1::fs,⟨⟨x,ox,_,m,e1,e2,e3,e4,rfl⟩,k1⟩,by simp[k2],fun u hu=>?_⟩
  rcases List.mem_cons.mp hu with z | z
  ·exact ⟨_,_,z⟩
  ·exact k3 u z
theorem uw: ∀l:List Value,(l.zip l).map (fun x=>x.2)=l
 | []=>rfl
 | v::l=>by rw[List.zip_cons_cons,List.map_cons,uw l]
theorem bA.ne {h:Heap} {vs:List Value} {ns:List (Int×Int)} (p:bA h vs ns) {a:Addr} (ha:h.objs.size<=a): ∀v∈vs,v≠ .ref a:=fun v hv z=>by
 obtain ⟨i,hi,e⟩:=List.mem_iff_getElem.mp hv
 obtain ⟨n,_,x,ox,t1,t2,m,e1,e2,_⟩:=p.get (i:=i) hi
 have e3:vs.getD i Value.none=v:=by rw[List.getD_eq_getElem?_getD,List.getElem?_eq_getElem hi,e];rfl
 rw[e3,z]at e1
 cases e1
 exact absurd (Nat.lt_of_lt_of_le (Heap.lt_size e2) ha) (Nat.lt_irrefl _)
end
section
variable {X:Cx}
noncomputable def oZ (K:PySem.W.Frag) (H:Hp):List V->List (Int×Int)->Prop
 | [],[]=>True
 | v::vs,n::ns=>(∃t,v= .ref t/\aW K H t [.int n.1, .int n.2])/\oZ K H vs ns
 | _,_=>False
theorem oZ.at {pins:List (Addr×Obj)} {σ:St} {H:Hp} {s:Shared} (I:Inv X pins σ H s): ∀{vs:List V} {ns:List (Int×Int)} {us:List Value},oZ X.K H vs ns->Vals vs us->bA s.heap us ns
 | [],[],_,_, .nil=>trivial
 | v::vs,n::ns,_,⟨⟨t,e,h⟩,b⟩, .cons r rs=>by
  subst e
  cases r
  obtain ⟨ay,rv,p,_⟩:=I.tuple h
  obtain ⟨u1,u2,e1,⟨t1,r1⟩,⟨t2,r2⟩⟩:=vals2 rv
  subst e1 r1 r2
  obtain ⟨o,ho,hc,m,hd⟩:=p
  exact ⟨⟨t,o,t1,t2,m,rfl,ho,hc,hd⟩,oZ.at I b rs⟩
end
end L2
namespace L2
open PySem PySem.Spec PyProof.Rows
section
variable {prog:Program} {w:World} {A:Around} {E:Value->Shared->Prop} {s:Shared}
noncomputable def TupAt (h:Heap) (k:Nat) (v:Value) (ns:List Int):Prop:= ∃x ox us m,v= .ref x/\h.get? x=some ox/\ox.cls= .type "tuple"/\ox.data= .seq us m/\IntsAre us.toList ns/\ns.length=k+1
noncomputable def DW (h:Heap) (k:Nat):List Value->List (List Int)->Prop
 | [],[]=>True
 | v::vs,n::ns=>TupAt h k v n/\DW h k vs ns
 | _,_=>False
end
section
variable {X:Cx}
noncomputable def L4 (K:PySem.W.Frag) (H:Hp) (k:Nat):List V->List (List Int)->Prop
 | [],[]=>True
 | v::vs,n::ns=>(∃t,v= .ref t/\aW K H t (n.map V.int)/\n.length=k+1)/\L4 K H k vs ns
 | _,_=>False
end
end L2
namespace HT
open PySem PySem.Spec PyProof.Rows
section
variable {prog:Program} {w:World} {A:Around} {E:Value->Shared->Prop} {s:Shared}
end
end HT
namespace L2
open PySem PySem.Spec PyProof.Rows
section
variable {X:Cx} {e st:Expr} {te:TE} {ts:TO} {pos p2:Pos}
end
end L2
namespace L2
open PySem PySem.Spec PyProof.Rows
section
variable {κ:Type} [DecidableEq κ]
noncomputable def gu (kvs:List (κ×V)) (k:κ):Option V:=(kvs.find? fun kv=>decide (kv.1=k)).map (·.2)
noncomputable def putK (kvs:List (κ×V)) (k:κ) (v:V):List (κ×V):=
 if (kvs.any fun kv=>decide (kv.1=k))=true then kvs.map (fun kv=>if kv.1=k then (kv.1,v) else kv) else kvs++[(k,v)]
noncomputable def Su (kvs:List (κ×V)) (k:κ):List (κ×V):=kvs.filter fun kv=>decide (kv.1≠k)
theorem ji {p:κ×V} {r:List (κ×V)} {k:κ} (e:p.1=k):gu (p::r) k=some p.2:=by simp[gu,List.find?_cons,e]
theorem gQ {p:κ×V} {r:List (κ×V)} {k:κ} (e: ¬p.1=k):gu (p::r) k=gu r k:=by simp[gu,List.find?_cons,e]
theorem jj (k:κ): ∀kvs:List (κ×V),(kvs.any fun kv=>decide (kv.1=k))=(gu kvs k).isSome
 | []=>rfl
 | p::r=>by
  rw[List.any_cons]
  by_cases e:p.1=k
  ·simp only[ji e,decide_eq_true e,Bool.true_or,Option.isSome_some]
  ·rw[gQ e,decide_eq_false e,Bool.false_or];exact jj k r
theorem j_ (kvs:List (κ×V)) (k:κ) (v:V):(putK kvs k v).length<=kvs.length+1:=by
 unfold putK
 split
 ·rw[List.length_map];omega
 ·rw[List.length_append,List.length_cons,List.length_nil];omega
theorem yk {kvs:List (κ×V)} {k:κ} (v:V) (h:gu kvs k=none):putK kvs k v=kvs++[(k,v)]:=by
 unfold putK
 rw[jj,h]
 exact if_neg (by decide)
theorem mL.jP {o:Option V} {u:Option Value} (r:mL o u):o.isSome=u.isSome:=by
 cases o with
 | none=>cases u with
  | none=>rfl
  | some _=>exact (show False from r).elim
 | some _=>cases u with
  | none=>exact (show False from r).elim
  | some _=>rfl
theorem KV.val {kvs:List (κ×V)} {vs:List (κ×Value)} (r:KV kvs vs) (k:κ):mL (gu kvs k) (valueAt vs k):=by
 unfold KV at r
 induction r with
 | nil=>exact True.intro
 | @cons p q ps qs h t ih=>
  obtain ⟨h1,h2⟩:=h
  by_cases e:p.1=k
  ·have e':q.1=k:=h1.symm.trans e
   have b:valueAt (q::qs) k=some q.2:=by simp[valueAt,List.find?_cons,e']
   rw[ji e,b];exact h2
  ·have e': ¬q.1=k:=fun z=>e (h1.trans z)
   have b:valueAt (q::qs) k=valueAt qs k:=by simp[valueAt,List.find?_cons,e']
   rw[gQ e,b];exact ih
theorem KV.any {kvs:List (κ×V)} {vs:List (κ×Value)} (r:KV kvs vs) (k:κ):(kvs.any fun kv=>decide (kv.1=k))=vs.any fun kv=>decide (kv.1=k):=by
 unfold KV at r
 induction r with
 | nil=>rfl
 | cons h t ih=>rw[List.any_cons,List.any_cons,ih,h.1]
theorem KV.DZ {kvs:List (κ×V)} {vs:List (κ×Value)} (r:KV kvs vs) (k:κ) {y:V} {u:Value} (ry:RelV y u):
  KV (kvs.map fun kv=>if kv.1=k then (kv.1,y) else kv) (vs.map fun kv=>if kv.1=k then (kv.1,u) else kv):=by
 unfold KV at r ⊢
 induction r with
 | nil=>exact .nil
 | @cons p q ps qs h t ih=>
  rw[List.map_cons,List.map_cons]
  refine .cons ?_ ih
  obtain ⟨h1,h2⟩:=h
  by_cases e:p.1=k
  ·rw[if_pos e,if_pos (h1.symm.trans e)];exact ⟨h1,ry⟩
  ·rw[if_neg e,if_neg (fun z=>e (h1.trans z))];exact ⟨h1,h2⟩
theorem KV.put {kvs:List (κ×V)} {vs:List (κ×Value)} (r:KV kvs vs) (k:κ) {y:V} {u:Value} (ry:RelV y u):KV (putK kvs k y) (stored vs k u):=by
 unfold putK stored
 rw[r.any k]
 by_cases e:(vs.any fun kv=>decide (kv.1=k))=true
 ·rw[if_pos e,if_pos e];exact r.DZ k ry
 ·rw[if_neg e,if_neg e];exact Paired.snoc r ⟨rfl,ry⟩
theorem KV.keys {kvs:List (κ×V)} {vs:List (κ×Value)} (r:KV kvs vs):kvs.map (·.1)=vs.map (·.1):=by
 unfold KV at r
 induction r with
 | nil=>rfl
 | cons h t ih=>rw[List.map_cons,List.map_cons,ih,h.1]
theorem KV.length {kvs:List (κ×V)} {vs:List (κ×Value)} (r:KV kvs vs):kvs.length=vs.length:=Paired.length r
end
theorem uz {P:Program} {w:World} {k:Key} {u:Value} (r:RelV (kV k) u):(bN P w).is k u=true:=by
 cases k with
 | inl i=>obtain ⟨t,e⟩:=(show ∃t,u=Value.int i t from r);subst e;exact pV P w i t
 | inr x=>obtain ⟨t,e⟩:=(show ∃t,u=Value.str x t from r);subst e;exact pW P w x t
theorem nJ {P:Program} {w:World}: ∀{ks:List Key} {us:List Value},Vals (ks.map kV) us->ItemsAre (bN P w) ks us
 | [],_,r=>by rw[List.map_nil]at r;cases r;exact .nil
 | k::ks,_,r=>by
  rw[List.map_cons]at r
  cases r with
  | cons h t=>exact .cons (uz h) (nJ t)
noncomputable abbrev KT (H:Hp):List (List Key×V)->List (List Key×Addr×Value)->Prop:=Paired fun p q=>p.1=q.1/\H q.2.1=some (.tup (p.1.map kV))/\RelV p.2 q.2.2
theorem KT.val {H:Hp} {kvs:List (List Key×V)} {xs:List (List Key×Addr×Value)} (r:KT H kvs xs) (k:List Key):mL (gu kvs k) ((atKey xs k).map (·.2)):=by
 induction r with
 | nil=>exact True.intro
 | @cons p q ps qs h t ih=>
  obtain ⟨h1,_,h2⟩:=h
  by_cases e:p.1=k
  ·have e':q.1=k:=h1.symm.trans e
   have b:atKey (q::qs) k=some q.2:=by simp[atKey,List.find?_cons,e']
   rw[ji e,b];exact h2
  ·have e': ¬q.1=k:=fun z=>e (h1.trans z)
   have b:atKey (q::qs) k=atKey qs k:=by simp[atKey,List.find?_cons,e']
   rw[gQ e,b];exact ih
theorem KT.DZ {H:Hp} {kvs:List (List Key×V)} {xs:List (List Key×Addr×Value)} (r:KT H kvs xs) (k:List Key) {y:V} {u:Value} (ry:RelV y u):
  KT H (kvs.map fun kv=>if kv.1=k then (kv.1,y) else kv) (xs.map (putAt k u)):=by
 induction r with
 | nil=>exact .nil
 | @cons p q ps qs h t ih=>
  rw[List.map_cons,List.map_cons]
  refine .cons ?_ ih
  obtain ⟨h1,h2,h3⟩:=h
  unfold putAt
  by_cases e:p.1=k
  ·rw[if_pos e,if_pos (h1.symm.trans e)];exact ⟨h1,h2,ry⟩
  ·rw[if_neg e,if_neg (fun z=>e (h1.trans z))];exact ⟨h1,h2,h3⟩
theorem KT.put {H:Hp} {kvs:List (List Key×V)} {xs:List (List Key×Addr×Value)} (r:KT H kvs xs) (k:List Key) {b:Addr} {y:V} {u:Value} (hb:H b=some (.tup (k.map kV))) (ry:RelV y u):
  KT H (putK kvs k y) (storedH xs k b u):=by
 have e:(kvs.any fun kv=>decide (kv.1=k))=(atKey xs k).isSome:=by
  rw[jj,(r.val k).jP,Option.isSome_map]
 unfold putK storedH
 rw[e]
 by_cases q:(atKey xs k).isSome=true
 ·rw[if_pos q,if_pos q];exact r.DZ k ry
 ·rw[if_neg q,if_neg q];exact Paired.snoc r ⟨rfl,hb,ry⟩
theorem KT.keeps {H H':Hp} {kvs:List (List Key×V)} {xs:List (List Key×Addr×Value)} (r:KT H kvs xs) (ht: ∀b ys,H b=some (.tup ys)->H' b=some (.tup ys)):KT H' kvs xs:=
 Paired.C1 r fun _ _ z=>⟨z.1,ht _ _ z.2.1,z.2.2⟩
section
variable {P:Program} {w:World} {H:Hp} {h:Heap} {a:Addr}
theorem B2 {u:HO} (ok:iU P w H h) (e:Rd H a u):cI P w H h a u:=e.ok ok
theorem uA {kvs:List (Key×V)} (ok:iU P w H h) (e:Rd H a (.dK kvs)):kvs.length<=sizeLine/\(a==sysModules)=false/\ ∃vs,KV kvs vs/\h.DictOf (bN P w) a vs:=
 show cI P w H h a (.dK kvs) from B2 ok e
theorem B3 {kvs:List (Key×V)} (ok:iU P w H h) (e:H a=some (.dK kvs)):kvs.length<=sizeLine/\(a==sysModules)=false/\ ∃vs,KV kvs vs/\h.DictOf (bN P w) a vs:=uA ok (.inl e)
theorem o3 {ks:List Key} (ok:iU P w H h) (e:H a=some (.tup (ks.map kV))):(tupleKind (bN P w)).is h ks a:=by
 obtain ⟨_,ay,r,o,h1,h2,n,h3⟩:=(show cI P w H h a (.tup (ks.map kV)) from ok a _ e)
 exact ⟨o,ay.toArray,n,h1,h2,h3,by simpa using nJ r⟩
theorem uB {kvs:List (List Key×V)} (ok:iU P w H h) (e:Rd H a (.dT kvs)):kvs.length<=sizeLine/\(a==sysModules)=false/\
  ∃xs,KT H kvs xs/\h.DictOfH (tupleKind (bN P w)) a xs:=by
 obtain ⟨z,y,xs,r,o,es,ep,h1,h2,h3,h4,h5⟩:=(show cI P w H h a (.dT kvs) from B2 ok e)
 refine ⟨z,y,xs,r,o,es,ep,h1,h2,h3,h4,fun x hx=>?_,h5⟩
 have all: ∀{l:List (List Key×V)} {m:List (List Key×Addr×Value)},KT H l m-> ∀x∈m,(tupleKind (bN P w)).is h x.1 x.2.1:=by
  intro l m q
  induction q with
  | nil=>intro x hx;exact nomatch hx
  | @cons p q ps qs hq t ih=>
   intro x hx
   rcases List.mem_cons.mp hx with e | hx
   ·subst e
    exact o3 ok (by rw[<-hq.1];exact hq.2.1)
   ·exact ih x hx
 exact all r x hx
theorem G8 {kvs:List (List Key×V)} (ok:iU P w H h) (e:H a=some (.dT kvs)):kvs.length<=sizeLine/\(a==sysModules)=false/\
  ∃xs,KT H kvs xs/\h.DictOfH (tupleKind (bN P w)) a xs:=uB ok (.inl e)
end
noncomputable def gR (H:Hp) (a:Addr) (y:V) (r:Option V):Prop:=
 (∃kvs k,Rd H a (.dK kvs)/\y=kV k/\r=gu kvs k)\/ ∃kvs k b,Rd H a (.dT kvs)/\y= .ref b/\H b=some (.tup (k.map kV))/\r=gu kvs k
noncomputable def vO (H:Hp) (a:Addr) (y v:V) (H':Hp):Prop:=
 (∃kvs k,H a=some (.dK kvs)/\y=kV k/\kvs.length<sizeLine/\H'=upd H a (.dK (putK kvs k v)))\/
 ∃kvs k b,H a=some (.dT kvs)/\y= .ref b/\H b=some (.tup (k.map kV))/\kvs.length<sizeLine/\H'=upd H a (.dT (putK kvs k v))
theorem gR.k {H:Hp} {a:Addr} {kvs:List (Key×V)} {k:Key} (e:H a=some (.dK kvs)):gR H a (kV k) (gu kvs k):= .inl ⟨kvs,k, .inl e,rfl,rfl⟩
theorem vO.k {H:Hp} {a:Addr} {kvs:List (Key×V)} {k:Key} {v:V} (e:H a=some (.dK kvs)) (hl:kvs.length<sizeLine):vO H a (kV k) v (upd H a (.dK (putK kvs k v))):= .inl ⟨kvs,k,e,rfl,hl,rfl⟩
section
variable {X:Cx} {pins:List (Addr×Obj)} {σ:St} {H:Hp} {s:Shared} {a:Addr} {y v:V} {u r:Value} {o:Option V} {A:Around} {E:Value->Shared->Prop}
theorem Inv.big (I:Inv X pins σ H s):sysModules<s.heap.objs.size:=by
 have h:mainGlobals<s.heap.objs.size:=(I.mod.glob.keeps I.bk).lt
 exact Nat.lt_trans (by decide) h
theorem vP {Q:Value->Shared->Prop} (hu:A.units+1<cLine) (I:Inv X pins σ H s) (g:gR H a y (some v)) (ry:RelV y u) (h: ∀w' s',Inv X pins σ H s'->RelV v w'->Q w' s'):
  wpAny (model X.prog X.w) A (getItem (.ref a) u) Q E s:=by
 rcases g with ⟨kvs,k,e,ey,l⟩ | ⟨kvs,k,b,e,ey,eb,l⟩
 ·subst ey
  obtain ⟨z,hd,vs,rel,dd⟩:=uA I.bh e
  obtain ⟨w',hw,xO⟩:=mL.some_of (v:=v) (o:=valueAt vs k) (by rw[l];exact rel.val k)
  exact wpAny_getItem_of (uz ry) dd.mapOf hw (h w' _ (I.tok _) xO)
 ·subst ey
  cases (show u=Value.ref b from ry)
  obtain ⟨z,hd,xs,rel,dd⟩:=uB I.bh e
  obtain ⟨w',hw,xO⟩:=mL.some_of (v:=v) (o:=(atKey xs k).map (·.2)) (by rw[l];exact rel.val k)
  obtain ⟨p,hp,kr⟩:=Option.map_eq_some_iff.mp hw
  refine wpAny_getItem_heap (tupleKind_room_in1 hu) (o3 I.bh eb) dd hp ?_
  rw[kr]
  exact h w' _ (I.tok _) xO
theorem AQ {Q:Value->Shared->Prop} (hu:A.units+1<cLine) (I:Inv X pins σ H s) (g:gR H a y o) (ry:RelV y u) (h: ∀s',Inv X pins σ H s'->Q (.bool (!o.isSome)) s'):
  wpAny (model X.prog X.w) A (compareOp .NotIn u (.ref a)) Q E s:=by
 rcases g with ⟨kvs,k,e,ey,l⟩ | ⟨kvs,k,b,e,ey,eb,l⟩
 ·subst ey
  obtain ⟨z,hd,vs,rel,dd⟩:=uA I.bh e
  refine wpAny_notIn_of (uz ry) hd dd.mapOf ?_
  rw[<-(rel.val k).jP, <-l]
  exact h _ (I.tok _)
 ·subst ey
  cases (show u=Value.ref b from ry)
  obtain ⟨z,hd,xs,rel,dd⟩:=uB I.bh e
  refine wpAny_notIn_heap (tupleKind_room_in1 hu) (o3 I.bh eb) hd dd ?_
  have q:=(rel.val k).jP
  rw[Option.isSome_map]at q
  rw[<-q, <-l]
  exact h _ (I.tok _)
theorem uC {h':Heap} {t':Nat} {ob:HO} (I:Inv X pins σ H s) (mu:FX (H a)) (hs:Heap.SameBut a s.heap h') (he: ∃q,h'.get? a=some q) (new:cI X.prog X.w (upd H a ob) h' a ob):
  Inv X pins σ (upd H a ob) { s with heap:=h',toks:=t' }:=
 I.write (x:=a) (e:=a) mu (.inl rfl) (fun b q hb z=>(hs.2 b hb).trans z) he new
theorem D0 {P:Program} {w:World} {H':Hp} {h':Heap} {kvs:List (Key×V)} {vs:List (Key×Value)} (z:kvs.length<=sizeLine) (hd:(a==sysModules)=false) (rel:KV kvs vs) (dd:h'.DictOf (bN P w) a vs):
  cI P w H' h' a (.dK kvs):=⟨z,hd,vs,rel,dd⟩
theorem vQ {H':Hp} {Q:Unit->Shared->Prop} (hu:A.units+1<cLine) (I:Inv X pins σ H s) (g:vO H a y v H') (ry:RelV y u) (rv:RelV v r) (h: ∀s',Inv X pins σ H' s'->Q () s'):
  wpAny (model X.prog X.w) A (setItem (.ref a) u r) Q E s:=by
 rcases g with ⟨kvs,k,e,ey,l,eH⟩ | ⟨kvs,k,b,e,ey,eb,l,eH⟩
 ·subst ey eH
  obtain ⟨z,hd,vs,rel,dd⟩:=B3 I.bh e
  have hz:vs.length<=sizeLine:=by rw[<-rel.length];exact z
  have hl:(putK kvs k v).length<=sizeLine:=by have:=j_ kvs k v;omega
  refine wpAny_setItem_pairs (hsz:=hz) (uz ry) dd fun h' JH hs=>h _ ?_
  have he: ∃q,h'.get? a=some q:=let ⟨q,_,_,hq,_⟩:=JH;⟨q,hq⟩
  exact uC I (by rw[e];exact True.intro) hs he (D0 hl hd (rel.put k rv) JH)
 ·subst ey eH
  cases (show u=Value.ref b from ry)
  obtain ⟨z,hd,xs,rel,dd⟩:=G8 I.bh e
  have hz:xs.length<=sizeLine:=by rw[<-Paired.length rel];exact z
  have hl:(putK kvs k v).length<=sizeLine:=by have:=j_ kvs k v;omega
  refine wpAny_setItem_heap (hsz:=hz) (tupleKind_room_in1 hu) (o3 I.bh eb) dd fun h' JH hs=>h _ ?_
  obtain ⟨q,es,ep,hq,h2,h3,h4,_,h5⟩:=JH
  refine uC I (by rw[e];exact True.intro) hs ⟨q,hq⟩ ⟨hl,hd,_,(rel.put k eb rv).keeps fun c ys ec=>?_,q,es,ep,hq,h2,h3,h4,h5⟩
  rw[aq (FW ec e (fun z=>nomatch z))]
  exact ec
end
section
variable {X:Cx} {pins:List (Addr×Obj)} {σ:St} {H:Hp} {s:Shared} {a:Addr} {kvs:List (Key×V)} {k:Key} {u:Value} {A:Around} {E:Value->Shared->Prop}
end
noncomputable def G9 (i:Expr):Prop:= ∀ov iv,subscripted i false ov iv=operate [ov,iv] (getItem ov iv)
theorem AR {prog:Program} {w:World} {A:Around} {E:Value->Shared->Prop} {s:Shared} {env:Env} {value slice:Expr} {pos:Pos} {T id:String} {Q:Value->Shared->Prop}
  (hl:typeLookup (.type T) "__getitem__"=pure (some (.builtin id))) (hs:G9 slice)
  (h:wpAny (model prog w) A (eval value env) (fun o s₁=>wpAny (model prog w) A (eval slice env) (fun i s₂=>s₂.TypeIs o T/\wpAny (model prog w) A (getItem o i) Q E s₂) E s₁) E s):
  wpAny (model prog w) A (eval (.Subscript value slice pos) env) Q E s:=by
 refine Subscript_ (wpAny_mono h (fun o s₁ h₁=>wpAny_mono h₁ (fun i s₂ h₂=>?_) fun _ _ x=>x) fun _ _ x=>x)
 obtain ⟨hT,h₂⟩:=h₂
 unfold subscriptTail
 refine wpAny_bind ?_
 rw[getitemInPython_of_ne hT.not_modules]
 refine wpAny_bind (wpAny_specialOf hT hl ?_)
 have fin:wpAny (model prog w) A (subscripted slice false o i) (fun r s₃=>wpAny (model prog w) A (letTemporaryGo value o r >>= fun _=>pure r) Q E s₃) E s₂:=by
  rw[hs o i]
  exact wpAny_operating (wpAny_mono h₂ (fun r s₃ h₃=>wpAny_bind (wpAny_letTemporaryGo (wpAny_pure h₃))) fun _ _ x=>x)
 first
  | exact wpAny_pure (wpAny_bind fin)
  | exact wpAny_bind (wpAny_pure (wpAny_bind fin))
  | exact wpAny_bind fin
theorem qr {X:Cx} {pins:List (Addr×Obj)} {σ:St} {H:Hp} {s:Shared} {a:Addr} {y:V} {o:Option V} (I:Inv X pins σ H s) (g:gR H a y o):s.TypeIs (.ref a) "dict":=by
 rcases g with ⟨kvs,k,e,_,_⟩ | ⟨kvs,k,b,e,_,_,_⟩
 ·obtain ⟨_,_,vs,_,dd⟩:=uA I.bh e
  exact dd.typeIs
 ·obtain ⟨_,_,xs,_,dd⟩:=uB I.bh e
  exact dd.typeIs
noncomputable def G_ (td ty:TE):TE:=fun σ H Q=>td σ H fun x H1=>ty σ H1 fun y H2=> ∃a v,x= .ref a/\gR H2 a y (some v)/\Q v H2
noncomputable def AS (ty td:TE):TE:=fun σ H Q=>ty σ H fun y H1=>td σ H1 fun x H2=> ∃a o,x= .ref a/\gR H2 a y o/\Q (.bl (!o.isSome)) H2
noncomputable def Ha (td ty tv:TE):TS:=fun D σ H=>tv σ H fun v H1=>td σ H1 fun x H2=>ty σ H2 fun y H3=> ∃a H4,x= .ref a/\vO H3 a y v H4/\D.nx σ H4
section
variable {X:Cx} {o i e value:Expr} {pos pos' Lp:Pos} {td ty tv:TE}
theorem fS (hu:X.A.units+1<cLine) (ho:PE X o td) (hi:PE X i ty) (hs:G9 i):PE X (.Subscript o i pos) (G_ td ty):=by
 intro pins s σ H Q I h
 refine AR PySem.F.slot_dict_getitem.lookup hs (bU (ho pins s σ H _ I h) fun u s1 ⟨x,H1,I1,rx,q1⟩=>bU (hi pins s1 σ H1 _ I1 q1) fun iv s2 ⟨y,H2,I2,ry,a,v,ex,g,q2⟩=>?_)
 subst ex
 obtain rfl:u=Value.ref a:=rx
 exact ⟨qr I2 g,vP hu I2 g ry fun w' s3 I3 xO=>⟨v,H2,I3,xO,q2⟩⟩
theorem vR (hu:X.A.units+1<cLine) (hi:PE X i ty) (ho:PE X o td):PC X .NotIn i o (AS ty td):=by
 intro pins s σ H Q I h
 refine bU (hi pins s σ H _ I h) fun iv s1 ⟨y,H1,I1,ry,q1⟩=>bU (ho pins s1 σ H1 _ I1 q1) fun u s2 ⟨x,H2,I2,rx,a,ov,ex,g,q2⟩=>?_
 subst ex
 obtain rfl:u=Value.ref a:=rx
 exact AQ hu I2 g ry fun s3 I3=>⟨.bl (!ov.isSome),H2,I3,rfl,q2⟩
theorem uD (hu:X.A.units+1<cLine) (ho:PE X o td) (hi:PE X i ty) (hv:PE X value tv) (hs:swapsWith value (some (.Subscript o i pos')) pos.line X.env=pure false):
  PS X (.Assign [.Subscript o i pos'] value pos) (Ha td ty tv):=by
 intro pins s σ H D I h
 refine wpAny_Assign_Subscript (bU (hv pins s σ H _ I h) fun r s1 ⟨v,H1,I1,rv,q1⟩=>bU (ho pins s1 σ H1 _ I1 q1) fun u s2 ⟨x,H2,I2,rx,q2⟩=>bU (hi pins s2 σ H2 _ I2 q2) fun iv s3 ⟨y,H3,I3,ry,a,H4,ex,g,q3⟩=>?_) hs
 subst ex
 obtain rfl:u=Value.ref a:=rx
 exact vQ hu I3 g ry rv fun s4 I4=>⟨σ,H4,I4,q3⟩
end
theorem yl {P:Program} {w:World} {H:Hp} (h:Heap) (hb:sysModules<h.objs.size):cI P w H (h.push { cls:= .type "dict",data:= .dict #[] }) h.objs.size (.dK []):=
 ⟨Nat.zero_le _,beq_eq_false_iff_ne.mpr (Ne.symm (Nat.ne_of_lt hb)),[], .nil,Heap.DictOf.new h⟩
noncomputable def D3:TE:=fun _ H Q=> ∀p,H p=none->Q (.ref p) (upd H p (.dK []))
section
variable {X:Cx} {pos:Pos}
theorem ym:PE X (.Dict [] [] pos) D3:=fun pins s σ H Q I h=>
 wpAny_Dict_empty ⟨.ref s.heap.objs.size,_,I.laid (a:=s.heap.objs.size) (o:= .dK []) (t':=s.toks) (fun _ _ q=>Heap.get?_push_of_some _ q) (Nat.le_refl _) (yl s.heap I.big),rfl,h _ (I.bh.fresh (Nat.le_refl _))⟩
end
structure M1 (X:Cx) (o:Expr) (m:Str) (apos:Pos) (e:Expr) (dm:Pos):Prop where
 base:attributeBase o m X.env (eval o X.env)=eval o X.env
 jQ:((backTo dm (starEach [e] X.env)).all (fun x=>!x.1)&&(backToKw dm (keywordEach [] X.env)).all (fun x=>x.1.isSome)
  &&decide (([e]:List Expr).length+([]:List Keyword).length+(if ([]:List Keyword).isEmpty then 0 else 1)<30))=true
 line:(apos.endLine==dm.line)=true
 trees:backTo dm (starEach [e] X.env)=[(false,eval e X.env)]
structure M2 (X:Cx) (o:Expr) (m:Str) (apos:Pos) (e f:Expr) (dm:Pos):Prop where
 base:attributeBase o m X.env (eval o X.env)=eval o X.env
 jQ:((backTo dm (starEach [e,f] X.env)).all (fun x=>!x.1)&&(backToKw dm (keywordEach [] X.env)).all (fun x=>x.1.isSome)
  &&decide (([e,f]:List Expr).length+([]:List Keyword).length+(if ([]:List Keyword).isEmpty then 0 else 1)<30))=true
 line:(apos.endLine==dm.line)=true
 trees:backTo dm (starEach [e,f] X.env)=[(false,eval e X.env),(false,eval f X.env)]
section
variable {X:Cx} {pins:List (Addr×Obj)} {σ:St} {H:Hp} {s:Shared} {a:Addr} {y d:V} {u r:Value} {o:Option V} {A:Around} {E:Value->Shared->Prop}
end
section
variable {X:Cx} {o e f:Expr} {apos dm:Pos} {td ty tx:TE}
end
section
variable {X:Cx} {pins:List (Addr×Obj)} {σ:St} {H:Hp} {s:Shared} {a:Addr} {kvs:List (Key×V)} {A:Around} {E:Value->Shared->Prop}
end
section
variable {X:Cx} {pins:List (Addr×Obj)} {σ:St} {H:Hp} {s:Shared} {a:Addr} {y:V} {u:Value} {A:Around} {E:Value->Shared->Prop}
end
end L2
namespace L2
open PySem PySem.Spec PyProof.Rows
section
variable {prog:Program} {w:World} {A:Around} {E:Value->Shared->Prop} {s:Shared}
end
section
variable {X:Cx}
end
end L2
set_option maxHeartbeats 1000000
namespace L2
open PySem PySem.Spec PyProof.Rows
section
variable {prog:Program} {w:World} {KK:Type} [DecidableEq KK] {knd:KeyKind prog w KK}
end
section
variable {X:Cx}
end
end L2
set_option maxHeartbeats 1000000
namespace L2.F2
open PySem PySem.Spec PyProof.Rows
end L2.F2
namespace L2
open PySem PySem.Spec PyProof.Rows
section
variable {prog:Program} {w:World} {A:Around} {E:Value->Shared->Prop} {s:Shared}
end
section
variable {X:Cx}
end
end L2
set_option maxHeartbeats 1000000
namespace L2
open PySem PySem.Spec PyProof.Rows
section
variable {prog:Program} {w:World} {A:Around} {E:Value->Shared->Prop} {s:Shared}
end
section
variable {X:Cx}
end
end L2
set_option maxHeartbeats 2000000
namespace L2
open PySem PySem.Spec PyProof.Rows
section
variable {prog:Program} {w:World} {A:Around} {E:Value->Shared->Prop} {s:Shared}
end
section
variable {X:Cx}
end
noncomputable def dd {α:Type} [DecidableEq α]:List α->List α->List α
 | σ,[]=>σ
 | σ,x::l=>dd (if x∈σ then σ else σ++[x]) l
section
variable {prog:Program} {w:World} {A:Around} {E:Value->Shared->Prop} {s:Shared}
noncomputable abbrev UW (prog:Program) (w:World) (h:Heap) (a:Addr) (l:List Str):Prop:=h.SetOf (strKind prog w) a (fun k=>decide (k∈dd [] l)) (dd [] l).length
end
section
variable {prog:Program} {w:World} {A:Around} {E:Value->Shared->Prop} {s:Shared}
end
section
variable {X:Cx}
end
end L2
namespace L2
open PySem PySem.Spec PyProof.Rows
section
variable {prog:Program} {w:World} {A:Around} {E:Value->Shared->Prop} {s:Shared}
noncomputable def Hb (h:Heap) (k:Nat) (v:Value) (ns:List Int):Prop:= ∃x ox us m is z t,v= .ref x/\h.get? x=some ox/\ox.cls= .type "tuple"/\ox.data= .seq us m/\us.toList=is++[.str z t]/\IntsAre is ns/\ns.length=k+1
noncomputable def D4 (h:Heap) (k:Nat):List Value->List (List Int)->Prop
 | [],[]=>True
 | v::vs,n::ns=>Hb h k v n/\D4 h k vs ns
 | _,_=>False
end
section
variable {X:Cx}
noncomputable def L5 (K:PySem.W.Frag) (H:Hp) (k:Nat):List V->List (List Int)->Prop
 | [],[]=>True
 | v::vs,n::ns=>(∃t z,v= .ref t/\aW K H t (n.map V.int++[.str z])/\n.length=k+1)/\L5 K H k vs ns
 | _,_=>False
end
section
variable {X:Cx}
end
end L2
namespace L2
open PySem PySem.Spec PyProof.Rows
section
variable {X:Cx} {st:Stmt} {rest:List Stmt} {t u:TS}
end
end L2
namespace L2
open PySem PySem.Spec PyProof.Rows
section
variable {X:Cx}
end
end L2
namespace L2
open PySem PySem.Spec PyProof.Rows
section
variable {X:Cx}
end
section
variable {prog:Program} {w:World} {A:Around} {E:Value->Shared->Prop} {s:Shared}
structure ZA (z TI TO i1 i2:Addr) (f1 f2:List Addr):Prop where
 m1:i1∈f1
 m2:i2∈f2
 z1:z∉f1
 z2:z∉f2
 o1:TO∉f1
 o2:TO∉f2
 c1:i1∉f2
 c2:i2∉f1
 tz:TI≠z
 tt:TI≠TO
 t1:TI≠i1
 t2:TI≠i2
 oz:TO≠z
theorem nm {a b:Addr} {f:List Addr} (h:a∈f) (n:b∉f):a≠b:=fun z=>n (z▸h)
section
variable {z TI TO i1 i2:Addr} {f1 f2:List Addr} {n1 n2 i:Nat} {P1 P2:Nat->Value->Prop} {S1 S2:Nat->Heap->Prop} {a b:Value}
theorem vS {Q:Value->Shared->Prop} (D1:Draws prog w A i1 f1 n1 P1 S1) (D2:Draws prog w A i2 f2 n2 P2 S2) (Z:ZA z TI TO i1 i2 f1 f2)
  (hz:IsZip s.heap z TI TO .none) (rF:IsPair s.heap TI (.ref i1) (.ref i2)) (zP:IsPair s.heap TO a b) (h1:S1 i s.heap) (h2:S2 i s.heap) (l1:i<n1) (l2:i<n2)
  (hQ: ∀x y h' tk,P1 i x->P2 i y->IsZip h' z TI TO (rawInt s.heap.objs.size)->IsPair h' TO x y->S1 (i+1) h'->S2 (i+1) h'->IsPair h' s.heap.objs.size x y->h'.objs.size=s.heap.objs.size+1->
   (∀c o,c≠z->c≠TO->c≠i1->c≠i2->s.heap.get? c=some o->h'.get? c=some o)->Q (.ref s.heap.objs.size) { s with heap:=h',toks:=tk }):
  wpAny (model prog w) A (Builtin.«zip.__next__» ⟨[.ref z],[]⟩) (fun fin s'=> ∃v,fin= .done (.ret v)/\Q v s') E s:=by
 obtain ⟨hp,g,d,L6,os⟩:=s
 have i1z:=nm Z.m1 Z.z1
 have i2z:=nm Z.m2 Z.z2
 have JI:=nm Z.m1 Z.o1
 have JJ:=nm Z.m2 Z.o2
 have UX:=nm Z.m2 Z.c1
 refine wpAny_bind (m:=field (.ref z) 2) (wpAny_field hz rfl (x:= .bool false) rfl ?_)
 refine wpAny_bind (m:=field (.ref z) 3) (wpAny_field hz rfl (x:= .ref TI) rfl ?_)
 refine wpAny_bind (m:=seqItems? (.ref TI)) (wpAny_seqItems rF rfl ?_)
 refine wpAny_bind (m:=Builtin.SmallTypes.ownedTupleIsFree (.ref z)) ?_
 (unfold Builtin.SmallTypes.ownedTupleIsFree;refine wpAny_bind (m:=field (.ref z) 0) (wpAny_field hz rfl (x:= .none) rfl (wpAny_pure ?_)))
 simp only[if_true]
 refine wpAny_bind (wpAny_rule ?_);refine wpAny_bind (m:=field (.ref z) 4) (wpAny_field hz rfl (x:= .ref TO) rfl ?_)
 refine wpAny_bind (wpAny_setField_rec hz (by simp) fun k1 qt jF=>?_)
 replace qt:IsZip k1 z TI TO .ellipsis:=qt
 replace jF:Heap.SameBut z hp k1:=jF
 refine wpAny_bind ?_;simp only[List.zipIdx_cons,List.zipIdx_nil,List.forIn_cons,List.forIn_nil]
 refine wpAny_bind (wpAny_bind (wpAny_onRaise ?_));refine wpAny_bind (m:=Builtin.SmallTypes.nextOf (.ref i1)) ?_
 refine D1.item i _ _ _ l1 (D1.frame _ _ _ h1 fun c hc o e=>jF.extBut _ _ (nm hc Z.z1) e) fun x k2 Sv px jE iK=>wpAny_pure ?_
 replace iK:Heap.SameBut i1 k1 k2:=iK
 have to2:IsPair k2 TO a b:=iK.extBut _ _ (Ne.symm JI) (jF.extBut _ _ Z.oz zP)
 refine wpAny_bind (m:=seqItems? (.ref TO)) (wpAny_seqItems to2 rfl ?_)
 refine wpAny_bind (wpAny_updateSeq_pair to2 fun k3 to3 mS=>?_)
 replace to3:IsPair k3 TO x b:=to3
 replace mS:Heap.SameBut TO k2 k3:=mS
 refine wpAny_bind (wpAny_letGo (wpAny_pure ?_));refine wpAny_bind (wpAny_bind (wpAny_onRaise ?_))
 refine wpAny_bind (m:=Builtin.SmallTypes.nextOf (.ref i2)) ?_
 refine D2.item i _ _ _ l2 (D2.frame _ _ _ h2 fun c hc o e=>mS.extBut _ _ (nm hc Z.o2) (iK.extBut _ _ (nm hc Z.c1) (jF.extBut _ _ (nm hc Z.z2) e))) fun y k4 Hc py Hd lC=>wpAny_pure ?_
 replace lC:Heap.SameBut i2 k3 k4:=lC
 have He:IsPair k4 TO x b:=lC.extBut _ _ (Ne.symm JJ) to3
 refine wpAny_bind (m:=seqItems? (.ref TO)) (wpAny_seqItems He rfl ?_)
 refine wpAny_bind (wpAny_updateSeq_pair He fun k5 AU sj=>?_)
 replace AU:IsPair k5 TO x y:=AU
 replace sj:Heap.SameBut TO k4 k5:=sj
 refine wpAny_bind (wpAny_letGo (wpAny_pure (wpAny_pure ?_)));refine wpAny_bind (m:=seqItems? (.ref TO)) (wpAny_seqItems AU rfl ?_)
 refine wpAny_bind (wpAny_newTuple ?_)
 have sz:k5.objs.size=hp.objs.size:=by rw[sj.1,lC.1,mS.1,iK.1,jF.1]
 have z5:IsZip k5 z TI TO .ellipsis:=sj.extBut _ _ (Ne.symm Z.oz) (lC.extBut _ _ (Ne.symm i2z) (mS.extBut _ _ (Ne.symm Z.oz) (iK.extBut _ _ (Ne.symm i1z) qt)))
 have kp: ∀c o,c≠z->c≠TO->c≠i1->c≠i2->hp.get? c=some o->k5.get? c=some o:=fun c o c1 c2 c3 c4 e=>sj.extBut _ _ c2 (lC.extBut _ _ c4 (mS.extBut _ _ c2 (iK.extBut _ _ c3 (jF.extBut _ _ c1 e))))
 have AV:S1 (i+1) k5:=D1.frame _ _ _ jE fun c hc o e=>sj.extBut _ _ (nm hc Z.o1) (lC.extBut _ _ (nm hc Z.c2) (mS.extBut _ _ (nm hc Z.o1) e))
 have L7:S2 (i+1) k5:=D2.frame _ _ _ Hd fun c hc o e=>sj.extBut _ _ (nm hc Z.o2) e
 have zl:z<k5.objs.size:=Heap.lt_size z5
 refine wpAny_bind (m:=Builtin.SmallTypes.ownedTupleHandOut (.ref z) (.ref k5.objs.size)) ?_
 have z6:IsZip (k5.push { cls:= .type "tuple",data:= .seq #[x,y] }) z TI TO .ellipsis:=Heap.get?_push_of_some _ z5
 (unfold Builtin.SmallTypes.ownedTupleHandOut;refine wpAny_bind (wpAny_setField_rec z6 (by simp) fun k7 z7 s7=>?_))
 replace z7:IsZip k7 z TI TO (rawInt k5.objs.size):=z7
 refine wpAny_setField_rec z7 (by simp) fun k8 z8 s8=>?_
 replace z8:IsZip k8 z TI TO (rawInt k5.objs.size):=z8
 have up: ∀c o,c≠z->k5.get? c=some o->k8.get? c=some o:=fun c o c1 e=>s8.extBut _ _ c1 (s7.extBut _ _ c1 (Heap.get?_push_of_some _ e))
 have t8:IsPair k8 k5.objs.size x y:=s8.extBut _ _ (Nat.ne_of_gt zl) (s7.extBut _ _ (Nat.ne_of_gt zl) (Heap.get?_push_size _ rfl))
 have e8:k8.objs.size=k5.objs.size+1:=by rw[s8.1,s7.1,Heap.size_push]
 rw[sz]at z8 t8 e8
 refine wpAny_pure ⟨_,rfl,?_⟩
 show Q (.ref k5.objs.size) _
 rw[sz]
 exact hQ x y k8 Hc px py z8 (up _ _ Z.oz AU) (D1.frame _ _ _ AV fun c hc o e=>up c o (nm hc Z.z1) e) (D2.frame _ _ _ L7 fun c hc o e=>up c o (nm hc Z.z2) e) t8 e8 fun c o c1 c2 c3 c4 e=>up c o c1 (kp c o c1 c2 c3 c4 e)
theorem yn {Q:Fin->Shared->Prop} (D1:Draws prog w A i1 f1 n1 P1 S1) (Z:ZA z TI TO i1 i2 f1 f2)
  (hz:IsZip s.heap z TI TO .none) (rF:IsPair s.heap TI (.ref i1) (.ref i2)) (zP:IsPair s.heap TO a b) (h1:S1 n1 s.heap)
  (hE: ∀h' e,(∀c o,c≠z->c≠TO->c≠i1->c≠i2->s.heap.get? c=some o->h'.get? c=some o)->(∃o,h'.get? e=some o/\o.cls= .type "StopIteration")->E (.ref e) { s with heap:=h' }):
  wpAny (model prog w) A (Builtin.«zip.__next__» ⟨[.ref z],[]⟩) Q E s:=by
 obtain ⟨hp,g,d,L6,os⟩:=s
 have i1z:=nm Z.m1 Z.z1
 refine wpAny_bind (m:=field (.ref z) 2) (wpAny_field hz rfl (x:= .bool false) rfl ?_)
 refine wpAny_bind (m:=field (.ref z) 3) (wpAny_field hz rfl (x:= .ref TI) rfl ?_)
 refine wpAny_bind (m:=seqItems? (.ref TI)) (wpAny_seqItems rF rfl ?_)
 refine wpAny_bind (m:=Builtin.SmallTypes.ownedTupleIsFree (.ref z)) ?_
 (unfold Builtin.SmallTypes.ownedTupleIsFree;refine wpAny_bind (m:=field (.ref z) 0) (wpAny_field hz rfl (x:= .none) rfl (wpAny_pure ?_)))
 simp only[if_true]
 refine wpAny_bind (wpAny_rule ?_);refine wpAny_bind (m:=field (.ref z) 4) (wpAny_field hz rfl (x:= .ref TO) rfl ?_)
 refine wpAny_bind (wpAny_setField_rec hz (by simp) fun k1 qt jF=>?_)
 replace qt:IsZip k1 z TI TO .ellipsis:=qt
 replace jF:Heap.SameBut z hp k1:=jF
 refine wpAny_bind ?_;simp only[List.zipIdx_cons,List.zipIdx_nil,List.forIn_cons,List.forIn_nil]
 refine wpAny_bind (wpAny_bind (wpAny_onRaise ?_));refine wpAny_bind (m:=Builtin.SmallTypes.nextOf (.ref i1)) ?_
 refine D1.done _ _ _ (D1.frame _ _ _ h1 fun c hc o e=>jF.extBut _ _ (nm hc Z.z1) e) fun k2 e iK he=>?_
 obtain ⟨oe,vT,Hf⟩:=he
 have z2:IsZip k2 z TI TO .ellipsis:=iK _ _ (Ne.symm i1z) qt
 have ez:e≠z:=fun x=>by subst x;rw[z2]at vT;cases vT;simp at Hf
 refine wpAny_setField_rec z2 (by simp) fun k3 _ mS=>hE k3 e (fun c o c1 _ c3 _ x=>mS.extBut _ _ c1 (iK _ _ c3 (jF.extBut _ _ c1 x))) ⟨oe,mS.extBut _ _ ez vT,Hf⟩
theorem sk {Q:Option Value->Shared->Prop} (D1:Draws prog w A.in1 i1 f1 n1 P1 S1) (D2:Draws prog w A.in1 i2 f2 n2 P2 S2) (Z:ZA z TI TO i1 i2 f1 f2)
  (hz:IsZip s.heap z TI TO .none) (rF:IsPair s.heap TI (.ref i1) (.ref i2)) (zP:IsPair s.heap TO a b) (h1:S1 i s.heap) (h2:S2 i s.heap) (l1:i<n1) (l2:i<n2)
  (hQ: ∀x y h' tk,P1 i x->P2 i y->IsZip h' z TI TO (rawInt s.heap.objs.size)->IsPair h' TO x y->S1 (i+1) h'->S2 (i+1) h'->IsPair h' s.heap.objs.size x y->h'.objs.size=s.heap.objs.size+1->
   (∀c o,c≠z->c≠TO->c≠i1->c≠i2->s.heap.get? c=some o->h'.get? c=some o)->Q (some (.ref s.heap.objs.size)) { s with heap:=h',toks:=tk }):
  wpAny (model prog w) A (pyNext (.ref z)) Q E s:=by
 have hT:s.TypeIs (.ref z) "zip":=⟨_,hz,rfl⟩
 unfold pyNext
 exact wpAny_bind (wpAny_attempt (wpAny_callSpecial?_slot (name:=Str.ofString "__next__") hT F.slot_zip_next (wpAny_call_entry F.slot_zip_next hT F.entry_zip_next
   (vS D1 D2 Z hz rF zP h1 h2 l1 l2 fun x y h' tk p1 p2 a1 a2 a3 a4 a5 a6 a7=>wpAny_pure (hQ x y h' tk p1 p2 a1 a2 a3 a4 a5 a6 a7)) (F.args_zip_next_1 _))))
theorem vU {Q:Option Value->Shared->Prop} (D1:Draws prog w A.in1 i1 f1 n1 P1 S1) (Z:ZA z TI TO i1 i2 f1 f2)
  (hz:IsZip s.heap z TI TO .none) (rF:IsPair s.heap TI (.ref i1) (.ref i2)) (zP:IsPair s.heap TO a b) (h1:S1 n1 s.heap)
  (hQ: ∀h',(∀c o,c≠z->c≠TO->c≠i1->c≠i2->s.heap.get? c=some o->h'.get? c=some o)->Q none { s with heap:=h' }):wpAny (model prog w) A (pyNext (.ref z)) Q E s:=by
 have hT:s.TypeIs (.ref z) "zip":=⟨_,hz,rfl⟩
 unfold pyNext
 refine wpAny_bind (wpAny_attempt (wpAny_callSpecial?_slot (name:=Str.ofString "__next__") hT F.slot_zip_next (wpAny_call_entry F.slot_zip_next hT F.entry_zip_next (yn D1 Z hz rF zP h1 fun h' e hk he=>?_) (F.args_zip_next_1 _))))
 obtain ⟨o,ho,hc⟩:=he
 refine wpAny_bind (wpAny_isInstance (T:="StopIteration") (b:=true) ⟨o,ho,hc⟩ isSubtype_stop (wpAny_pure (hQ _ hk)))
end
structure ZS (P:Program) (w:World) (K:PySem.W.Frag) (a it:Addr) (Sq:Hp->List V->Prop) (IT:Nat->Heap->Prop):Prop where
 obj: ∀i h,IT i h-> ∃o,h.get? it=some o/\ ∀v,o.data≠ .cell v
 keep: ∀i h h',IT i h->(∀o,h.get? it=some o->h'.get? it=some o)->IT i h'
 inj: ∀(X:Cx),X.K=K-> ∀(pins:List (Addr×Obj)) (s:Shared) (σ:St) (H:Hp),Inv X pins σ H s-> ∀xs ys,Sq H xs->Sq H ys->xs=ys
 draws: ∀(X:Cx),X.prog=P->X.w=w->X.K=K->X.calm=true-> ∀(pins:List (Addr×Obj)) (s:Shared) (σ:St) (H:Hp),Inv X pins σ H s-> ∀xs,Sq H xs->a≠it->
  ∃(ay:List Value) (SS:Nat->Heap->Prop),Vals xs ay/\Draws P w X.A.in1 it [it,a] ay.length (fun i v=>ay[i]? =some v) SS/\(∀i,IT i s.heap->SS i s.heap)/\ ∀i h,SS i h->IT i h
theorem so {P:Program} {w:World} {K:PySem.W.Frag} (a it:Addr):ZS P w K a it (fun H xs=>aW K H a xs) (fun i h=>h.IsTupleIter it a i) where
 obj:=fun i h st=>by
  obtain ⟨o,ho,hc,hd⟩:=st
  exact ⟨o,ho,fun v z=>by rw[hd]at z;cases z⟩
 keep:=fun i h h' st k=>by
  obtain ⟨o,ho,r⟩:=st
  exact ⟨o,k o ho,r⟩
 inj:=fun X hK pins s σ H I xs ys h1 h2=>by subst hK;exact I.jJ h1 h2
 draws:=fun X hP hw hK hc pins s σ H I xs hq ne=>by
  subst hP hw hK
  obtain ⟨ay,rv,p,_⟩:=I.tuple hq
  have D:=gP (prog:=X.prog) (w:=X.w) (A:=X.A.in1) (I.ok.hd hc) it a ne ay.toArray
  refine ⟨ay,fun i h=>h.IsTupleIter it a i/\h.IsTuple a ay.toArray,rv,?_,fun i h=>⟨h,p⟩,fun i h z=>z.1⟩
  have e:ay.toArray.size=ay.length:=List.size_toArray
  rw[<-e]
  refine ⟨D.live,D.frame,fun i s Q E hi st q=>D.item i s Q E hi st fun x h' tk hx=>q x h' tk (by simpa using hx),D.done⟩
noncomputable def B4 (Sq1 Sq2:Hp->List V->Prop):It:=⟨fun i H=> ∃xs ys x y,Sq1 H xs/\Sq2 H ys/\xs[i]? =some x/\ys[i]? =some y,
 fun i H x H'=> ∃T u v,(∀xs,Sq1 H xs->xs[i]? =some u)/\(∀ys,Sq2 H ys->ys[i]? =some v)/\x= .ref T/\H T=none/\H'=upd H T (.tup [u,v]),
 fun i H=> ∃xs,Sq1 H xs/\(∃ys,Sq2 H ys)/\xs.length=i⟩
noncomputable abbrev FA (h:Heap) (c:String) (l:Addr):Heap:=h.push { cls:= .type c,data:= .fields #[.ref l, .int 0 0] }
noncomputable abbrev JK (h:Heap) (c d:String) (l m:Addr):Heap:=FA (FA h c l) d m
noncomputable abbrev JL (h:Heap) (c d:String) (l m:Addr):Heap:=(JK h c d l m).push { cls:= .type "tuple",data:= .seq #[.ref h.objs.size, .ref (FA h c l).objs.size] }
noncomputable abbrev Hg (h:Heap) (c d:String) (l m:Addr):Heap:=(JL h c d l m).push { cls:= .type "tuple",data:= .seq #[.none, .none] }
noncomputable abbrev D5 (h:Heap) (c d:String) (l m:Addr):Heap:=(Hg h c d l m).push { cls:= .type "zip",data:= .fields #[.none, .bool false, .bool false, .ref (JK h c d l m).objs.size, .ref (JL h c d l m).objs.size] }
theorem qu (l m:Addr) (xs ys:Array Value):Meets (Builtin.«zip.__new__» ⟨[.type "zip", .ref l, .ref m],[]⟩) (fun _ R s=>s.heap.IsTuple l xs/\s.heap.IsTuple m ys/\R (.ok (.ret (.ref (Hg s.heap "tuple_iterator" "tuple_iterator" l m).objs.size))) { s with heap:=D5 s.heap "tuple_iterator" "tuple_iterator" l m }):=
 .of_wp fun prog w A R s h=>by
  obtain ⟨hp,g,d,tk,os⟩:=s;obtain ⟨q1,q2,h⟩:=h;have AM:=sub_zip
  have k1:Heap.IsTuple (Shared.heap ⟨hp,g,d,tk,os⟩) l xs:=q1
  have k2:Heap.IsTuple (Shared.heap ⟨hp.push { cls:= .type "tuple_iterator",data:= .fields #[.ref l, .int 0 0] },g,d,tk,os⟩) m ys:=by
   obtain ⟨o,e,r⟩:=q2
   exact ⟨o,Heap.get?_push_of_some _ e,r⟩
  wp_walk using wpAny_pyIter_tuple k1,wpAny_pyIter_tuple k2
  exact ⟨_,rfl,h⟩
noncomputable def Sw (c d:String) (P1 P2:Heap->Prop) (l m:Addr):Prop:= ∀(prog:Program) (w:World) (A:Around) (E:Value->Shared->Prop) (s:Shared) (Q:Value->Shared->Prop),P1 s.heap->P2 s.heap->
  (∀h',IsZip h' (s.heap.objs.size+4) (s.heap.objs.size+2) (s.heap.objs.size+3) .none->IsPair h' (s.heap.objs.size+2) (.ref s.heap.objs.size) (.ref (s.heap.objs.size+1))->
   IsPair h' (s.heap.objs.size+3) .none .none->h'.get? s.heap.objs.size=some { cls:= .type c,data:= .fields #[.ref l, .int 0 0] }->h'.get? (s.heap.objs.size+1)=some { cls:= .type d,data:= .fields #[.ref m, .int 0 0] }->
   (∀b o,s.heap.get? b=some o->h'.get? b=some o)->Q (.ref (s.heap.objs.size+4)) { s with heap:=h' })->
  wpAny (model prog w) A (call (.type "zip") [.ref l, .ref m]) Q E s
theorem D6 {c d:String} {P1 P2:Heap->Prop} {l m:Addr} (M:Meets (Builtin.«zip.__new__» ⟨[.type "zip", .ref l, .ref m],[]⟩) (fun _ R s=>P1 s.heap/\P2 s.heap/\R (.ok (.ret (.ref (Hg s.heap c d l m).objs.size))) { s with heap:=D5 s.heap c d l m })):Sw c d P1 P2 l m:=by
 intro prog w A E s Q p1 p2 h
 refine callType_new F.called_zip (by decide) (F.typeCall_zip_2 _ _) (F.newCall_zip_2 _ _) (fun ob=>F.args_object_init_3 ob _ _) F.entry_zip_new M ⟨p1,p2,?_⟩
 have e1:(FA s.heap c l).objs.size=s.heap.objs.size+1:=Heap.size_push ..
 have e2:(JK s.heap c d l m).objs.size=s.heap.objs.size+2:=by rw[Heap.size_push,e1]
 have e3:(JL s.heap c d l m).objs.size=s.heap.objs.size+3:=by rw[Heap.size_push,e2]
 have e4:(Hg s.heap c d l m).objs.size=s.heap.objs.size+4:=by rw[Heap.size_push,e3]
 have g5:(D5 s.heap c d l m).get? (Hg s.heap c d l m).objs.size=some _:=Heap.get?_push_size _ rfl
 have g4:(D5 s.heap c d l m).get? (JL s.heap c d l m).objs.size=some _:=Heap.get?_push_of_some _ (Heap.get?_push_size _ rfl)
 have g3:(D5 s.heap c d l m).get? (JK s.heap c d l m).objs.size=some _:=Heap.get?_push_of_some _ (Heap.get?_push_of_some _ (Heap.get?_push_size _ rfl))
 have g2:(D5 s.heap c d l m).get? (FA s.heap c l).objs.size=some _:=Heap.get?_push_of_some _ (Heap.get?_push_of_some _ (Heap.get?_push_of_some _ (Heap.get?_push_size _ rfl)))
 have g1:(D5 s.heap c d l m).get? s.heap.objs.size=some _:=Heap.get?_push_of_some _ (Heap.get?_push_of_some _ (Heap.get?_push_of_some _ (Heap.get?_push_of_some _ (Heap.get?_push_size _ rfl))))
 show _/\_
 rw[e2,e3,e4]at g5
 rw[e1,e2]at g3
 rw[e3]at g4
 rw[e1]at g2
 rw[e4]
 exact ⟨⟨_,g5,rfl⟩,h _ g5 g3 g4 g1 g2 fun b o x=>Heap.get?_push_of_some _ (Heap.get?_push_of_some _ (Heap.get?_push_of_some _ (Heap.get?_push_of_some _ (Heap.get?_push_of_some _ x))))⟩
theorem AW {a b c:Nat} (h1:a≠b) (h2:a≠c):(a:Addr)∉([b,c]:List Addr):=fun h=>by
 rcases List.mem_cons.mp h with e | e
 ·exact h1 e
 ·exact h2 (List.mem_singleton.mp e)
theorem zQ {a b:Nat} (h:a≠b):(a:Addr)≠(b:Addr):=h
theorem D7 {n l m:Nat} (h1:l<n) (h2:m<n):ZA (n+4:Nat) (n+2:Nat) (n+3:Nat) n (n+1:Nat) [n,l] [(n+1:Nat),m]:=
 ⟨List.mem_cons_self,List.mem_cons_self,AW (a:=n+4) (b:=n) (c:=l) (by omega) (by omega),AW (a:=n+4) (b:=n+1) (c:=m) (by omega) (by omega),AW (a:=n+3) (b:=n) (c:=l) (by omega) (by omega),AW (a:=n+3) (b:=n+1) (c:=m) (by omega) (by omega),
  AW (a:=n) (b:=n+1) (c:=m) (by omega) (by omega),AW (a:=n+1) (b:=n) (c:=l) (by omega) (by omega),zQ (a:=n+2) (b:=n+4) (by omega),zQ (a:=n+2) (b:=n+3) (by omega),zQ (a:=n+2) (b:=n) (by omega),zQ (a:=n+2) (b:=n+1) (by omega),zQ (a:=n+3) (b:=n+4) (by omega)⟩
end
noncomputable def Hh (Sq1 Sq2:Addr->Hp->List V->Prop) (ta:TA):TI:=fun σ H R=>ta σ H fun vs H1=> ∃a b,vs=[.ref a, .ref b]/\(∃xs,Sq1 a H1 xs)/\(∃ys,Sq2 b H1 ys)/\R (B4 (Sq1 a) (Sq2 b)) H1
noncomputable abbrev vV (K:PySem.W.Frag):Addr->Hp->List V->Prop:=fun a H xs=>aW K H a xs
section
variable {X:Cx} {elts:List Expr} {k:Nat} {pos':Pos} {a b:Expr} {ta:TA} {p pos:Pos}
end
theorem AX {Sq1 Sq2:Hp->List V->Prop} {xs ys:List V} {g:TG} {tb:TS} {D:Ends} {σ:St} {H:Hp} (Pv:Nat->St->Hp->Prop) (hlen:xs.length=ys.length) (h0:Pv 0 σ H) (hl: ∀i σ H,i<=xs.length->Pv i σ H->Sq1 H xs/\Sq2 H ys)
  (hs: ∀i x y σ H T,xs[i]? =some x->ys[i]? =some y->Pv i σ H->H T=none->g (.ref T) σ (upd H T (.tup [x,y])) fun σ2 H2=>tb { D with nx:=Pv (i+1),ct:=Pv (i+1),bk:=D.nx } σ2 H2) (hd: ∀σ H,Pv xs.length σ H->D.nx σ H):
  ∃W:Nat->Nat->St->Hp->Prop,(∃m,W 0 m σ H)/\ ∀i m σ H,W i m σ H->
   ((B4 Sq1 Sq2).stop i H/\D.nx σ H)\/((B4 Sq1 Sq2).go i H/\ ∃N:St->Hp->Prop,(∀σ' H',N σ' H'-> ∃m',m'<m/\W (i+1) m' σ' H')/\ ∀x H',(B4 Sq1 Sq2).ua i H x H'->g x σ H' fun σ2 H2=>tb { D with nx:=N,ct:=N,bk:=D.nx } σ2 H2):=by
 refine ⟨fun i m σ H=>m=xs.length - i/\i<=xs.length/\Pv i σ H,⟨xs.length,by simp,Nat.zero_le _,h0⟩,?_⟩
 rintro i m σ H ⟨rfl,hi,p⟩
 obtain ⟨q1,q2⟩:=hl i σ H hi p
 by_cases cN:i<xs.length
 ·have D8:i<ys.length:=by omega
  refine .inr ⟨⟨xs,ys,xs[i],ys[i],q1,q2,by simp[cN],by simp[D8]⟩,Pv (i+1),fun σ' H' p'=>⟨xs.length - (i+1),by omega,rfl,cN,p'⟩,fun x H' y=>?_⟩
  obtain ⟨T,u,v,hu,hv,rfl,hn,rfl⟩:=y
  exact hs i u v σ _ T (hu xs q1) (hv ys q2) p hn
 ·have e:i=xs.length:=by omega
  subst e
  exact .inl ⟨⟨xs,q1,⟨ys,q2⟩,rfl⟩,hd σ H p⟩
theorem yo {Sq1 Sq2:Hp->List V->Prop} {xs ys:List V} {σc:St} {g:TG} {tc:TT} {te:TE} {Q:VK} {H1:Hp} (Pv:Nat->List V->Hp->Prop) (hlen:xs.length=ys.length) (hn:xs.length<sizeLine) (hl: ∀i acc H,Pv i acc H->Sq1 H xs/\Sq2 H ys) (h0:Pv 0 [] H1)
  (hs: ∀(i:Nat) (x y:V) (acc:List V) (H:Hp) (T:Addr) (Nx:List V->Hp->Prop),xs[i]? =some x->ys[i]? =some y->acc.length<=i->Pv i acc H->H T=none->(∀bu H',bu.length<=i+1->Pv (i+1) bu H'->Nx bu H')->
   g (.ref T) σc (upd H T (.tup [x,y])) fun σ2 H2=>Wk σc σ2/\tc σ2 H2 fun b H3=>if b=true then te σ2 H3 fun v H4=>Nx (acc++[v]) H4 else Nx acc H3)
  (hd: ∀acc H D,acc.length<=xs.length->Pv xs.length acc H->H D=none->Q (.ref D) (upd H D (.lst acc))):jb (B4 Sq1 Sq2) σc g tc te Q H1:=by
 refine ⟨fun i m acc H=>m=xs.length - i/\i<=xs.length/\acc.length<=i/\Pv i acc H,⟨xs.length,by simp,Nat.zero_le _,Nat.le_refl _,h0⟩,?_⟩
 rintro i m acc H ⟨rfl,hi,vh,p⟩
 obtain ⟨q1,q2⟩:=hl i acc H p
 refine ⟨by omega,?_⟩
 by_cases cN:i<xs.length
 ·have D8:i<ys.length:=by omega
  refine .inr ⟨⟨xs,ys,xs[i],ys[i],q1,q2,by simp[cN],by simp[D8]⟩,fun x H' y=>?_⟩
  obtain ⟨T,u,v,hu,hv,rfl,hT,rfl⟩:=y
  exact hs i u v acc _ T (fun bu H'=> ∃m',m'<xs.length - i/\(m'=xs.length - (i+1)/\i+1<=xs.length/\bu.length<=i+1/\Pv (i+1) bu H')) (hu xs q1) (hv ys q2) vh p hT fun bu H' h1 h2=>⟨xs.length - (i+1),by omega,rfl,cN,h1,h2⟩
 ·have e:i=xs.length:=by omega
  subst e
  exact .inl ⟨⟨xs,q1,⟨ys,q2⟩,rfl⟩,fun D hD=>hd acc H D vh p hD⟩
end L2
namespace L2
open PySem PySem.Spec PyProof.Rows
section
variable {X:Cx}
end
end L2
namespace L2
open PySem PySem.Spec PyProof.Rows PySem.MeetsSeq PySem.SeqAt
section
variable {X:Cx}
end
end L2
namespace L2
open PySem PySem.Spec PyProof.Rows
end L2
namespace L2
open PySem PySem.Spec PyProof.Rows
structure ZT (P:Program) (w:World) (K:PySem.W.Frag) (fp:List Addr) (it:Addr) (Sq:Hp->List V->Prop) (IT:Nat->Heap->Prop):Prop where
 obj: ∀i h,IT i h-> ∃o,h.get? it=some o/\ ∀v,o.data≠ .cell v
 keep: ∀i h h',IT i h->(∀o,h.get? it=some o->h'.get? it=some o)->IT i h'
 inj: ∀(X:Cx),X.K=K-> ∀(pins:List (Addr×Obj)) (s:Shared) (σ:St) (H:Hp),Inv X pins σ H s-> ∀xs ys,Sq H xs->Sq H ys->xs=ys
 draws: ∀(X:Cx),X.prog=P->X.w=w->X.K=K->X.calm=true-> ∀(pins:List (Addr×Obj)) (s:Shared) (σ:St) (H:Hp),Inv X pins σ H s-> ∀xs,Sq H xs->
  ∃(PP:Nat->Value->Prop) (SS:Nat->Heap->Prop),(∀i x v,xs[i]? =some x->PP i v->RelV x v)/\Draws P w X.A.in1 it fp xs.length PP SS/\(∀i,IT i s.heap->SS i s.heap)/\ ∀i h,SS i h->IT i h
theorem ZS.zt {P:Program} {w:World} {K:PySem.W.Frag} {a it:Addr} {Sq:Hp->List V->Prop} {IT:Nat->Heap->Prop} (Z:ZS P w K a it Sq IT) (ne:a≠it):ZT P w K [it,a] it Sq IT where
 obj:=Z.obj
 keep:=Z.keep
 inj:=Z.inj
 draws:=fun X hP hw hK hc pins s σ H I xs hq=>by
  obtain ⟨ay,SS,rv,D,h1,h2⟩:=Z.draws X hP hw hK hc pins s σ H I xs hq ne
  rw[<-rv.length]at D
  refine ⟨_,SS,fun i x v hx hv=>?_,D,h1,h2⟩
  obtain ⟨u,hu,ru⟩:=rv.get hx
  have:v=u:=Option.some.inj (hv.symm.trans hu)
  rw[this];exact ru
theorem D9 {P:Program} {w:World} {K:PySem.W.Frag} (it:Addr) (l:List Nat) (t:Tok):ZT P w K [it] it (fun _ xs=>xs=bY l) (fun i h=>h.IsStrIter it (strIterType (S l)) (S l) t i) where
 obj:=fun i h st=>by
  obtain ⟨o,ho,hc,hd⟩:=st
  exact ⟨o,ho,fun v z=>by rw[hd]at z;cases z⟩
 keep:=fun i h h' st k=>by
  obtain ⟨o,ho,r⟩:=st
  exact ⟨o,k o ho,r⟩
 inj:=fun X hK pins s σ H I xs ys h1 h2=>h1.trans h2.symm
 draws:=fun X hP hw hK hc pins s σ H I xs hq=>by
  subst hP hw hK hq
  have rel: ∀i x v,(bY l)[i]? =some x->(∃(c:Nat) (u:Tok),(S l).cps[i]? =some c/\v=Value.str ⟨#[c]⟩ u)->RelV x v:=fun i x v hx hh=>by
   obtain ⟨c,u,e1,e2⟩:=hh
   obtain ⟨d,hd,rfl⟩:=dH hx
   have e3:l[i]? =some c:=by rw[<-e1];show l[i]? =l.toArray[i]?; exact (List.getElem?_toArray ..).symm
   rw[hd]at e3;cases e3
   exact ⟨u,e2⟩
  have e:(S l).cps.size=(bY l).length:=by rw[gJ,aQ]
  by_cases ha:(S l).cps.all (· <128)=true
  ·have et:strIterType (S l)="str_ascii_iterator":=by unfold strIterType;rw[if_pos ha]
   have D:=Draws.strAscii (prog:=X.prog) (w:=X.w) (A:=X.A.in1) (I.ok.hd hc) it (S l) t
   rw[e]at D
   exact ⟨_,_,rel,D,fun i h=>by rw[et]at h;exact h,fun i h z=>by rw[et];exact z⟩
  ·have et:strIterType (S l)="str_iterator":=by unfold strIterType;rw[if_neg ha]
   have D:=Draws.strWide (prog:=X.prog) (w:=X.w) (A:=X.A.in1) (I.ok.hd hc) it (S l) t
   rw[e]at D
   exact ⟨_,_,rel,D,fun i h=>by rw[et]at h;exact h,fun i h z=>by rw[et];exact z⟩
theorem vW {P:Program} {w:World} {K:PySem.W.Frag} {elts:List Expr} {k:Nat} {pos:Pos} {z TI TO i1 i2:Addr} {f1 f2:List Addr} {Sq1 Sq2:Hp->List V->Prop} {I1 I2:Nat->Heap->Prop}
  (W1:ZT P w K f1 i1 Sq1 I1) (W2:ZT P w K f2 i2 Sq2 I2) (Z:ZA z TI TO i1 i2 f1 f2):
  Turn P w K (.Tuple elts k pos) (B4 Sq1 Sq2) [z,TI,TO,i1,i2] z (fun i h=>IsZip h z TI TO .none/\IsPair h TI (.ref i1) (.ref i2)/\(∃a b,IsPair h TO a b)/\I1 i h/\I2 i h) where
 mem:=by simp
 obj:=fun i h st b hb=>by
  obtain ⟨q1,q2,⟨a,b',q3⟩,q4,q5⟩:=st
  simp only[List.mem_cons,List.not_mem_nil,or_false]at hb
  rcases hb with g | g | g | g | g<;>rw[g]
  ·exact ⟨_,q1,fun v z=>by cases z⟩
  ·exact ⟨_,q2,fun v z=>by cases z⟩
  ·exact ⟨_,q3,fun v z=>by cases z⟩
  ·exact W1.obj i h q4
  ·exact W2.obj i h q5
 keep:=fun i h h' st kp=>by
  obtain ⟨q1,q2,⟨a,b',q3⟩,q4,q5⟩:=st
  exact ⟨kp z (by simp) _ q1,kp TI (by simp) _ q2,⟨a,b',kp TO (by simp) _ q3⟩,W1.keep _ _ _ q4 fun o e=>kp i1 (by simp) o e,W2.keep _ _ _ q5 fun o e=>kp i2 (by simp) o e⟩
 item:=by
  intro X hP hw hK hc i pins s σ H E I hf st hg
  obtain ⟨q1,q2,⟨a,b',q3⟩,q4,q5⟩:=st
  obtain ⟨xs,ys,x,y,hx,hy,gx,gy⟩:=hg
  obtain ⟨PX,SX,rx,DX,ux,vx⟩:=W1.draws X hP hw hK hc pins s σ H I xs hx
  obtain ⟨PY,SY,ry,DY,uy,vy⟩:=W2.draws X hP hw hK hc pins s σ H I ys hy
  have L8:=W1.inj X hK pins s σ H I
  have L9:=W2.inj X hK pins s σ H I
  subst hP hw hK
  refine sk DX DY Z q1 q2 q3 (ux i q4) (uy i q5) (List.getElem?_eq_some_iff.mp gx).1 (List.getElem?_eq_some_iff.mp gy).1 fun x2 y2 h' tk p1 p2 e1 e2 e3 e4 e5 e6 e7=>⟨_,rfl,?_⟩
  have ru:=rx i x x2 gx p1
  have L_:=ry i y y2 gy p2
  have lt: ∀{c o},s.heap.get? c=some o->s.heap.objs.size≠c:=fun e=>Nat.ne_of_gt (Heap.lt_size e)
  obtain ⟨o1,g1⟩:=DX.live _ _ (ux i q4)
  obtain ⟨o2,g2⟩:=DY.live _ _ (uy i q5)
  have xr:s.heap.objs.size∉[z,TI,TO,i1,i2]:=by
   simp only[List.mem_cons,List.not_mem_nil,or_false,not_or]
   exact ⟨lt q1,lt q2,lt q3,lt g1,lt g2⟩
  refine wpAny_letOwnedTupleGo_zip e1 fun h2 z2 sb=>?_
  have kk: ∀b o,b∉[z,TI,TO,i1,i2]->s.heap.get? b=some o->h2.get? b=some o:=fun b o hb e=>by
   simp only[List.mem_cons,List.not_mem_nil,or_false,not_or]at hb
   exact sb.extBut _ _ hb.1 (e7 b o hb.1 hb.2.2.1 hb.2.2.2.1 hb.2.2.2.2 e)
  have jf:h2.IsTuple s.heap.objs.size #[x2,y2]:=⟨_,sb.extBut _ _ (lt q1) e5,rfl,_,rfl⟩
  refine ⟨.ref s.heap.objs.size,upd H s.heap.objs.size (.tup [x,y]),?_,rfl,⟨s.heap.objs.size,x,y,fun zs D_=>by rw[L8 zs xs D_ hx];exact gx,fun zs D_=>by rw[L9 zs ys D_ hy];exact gy,rfl,I.bh.fresh (Nat.le_refl _),rfl⟩,
   ⟨z2,sb.extBut _ _ Z.tz (e7 _ _ Z.tz Z.tt Z.t1 Z.t2 q2),⟨_,_,sb.extBut _ _ Z.oz e2⟩,vx _ _ (DX.frame _ _ _ e3 fun c hc o e=>sb.extBut _ _ (nm hc Z.z1) e),vy _ _ (DY.frame _ _ _ e4 fun c hc o e=>sb.extBut _ _ (nm hc Z.z2) e)⟩,fun b hb=>?_⟩
  ·refine I.gN (t':=tk) (h':=h2) kk hf (Nat.le_refl _) ?_
   exact ⟨by show 2<=sizeLine;decide,[x2,y2], .cons ru (.cons L_ .nil),jf⟩
  ·rw[aq (fun q:b=s.heap.objs.size=>xr (q▸hb))];exact (hf b hb).1
 done:=by
  intro X hP hw hK hc i pins s σ H E I hf st hg
  obtain ⟨q1,q2,⟨a,b',q3⟩,q4,q5⟩:=st
  obtain ⟨xs,hx,⟨ys,hy⟩,el⟩:=hg
  obtain ⟨PX,SX,rx,DX,ux,vx⟩:=W1.draws X hP hw hK hc pins s σ H I xs hx
  subst hP hw hK
  subst el
  refine vU DX Z q1 q2 q3 (ux _ q4) fun h' hk=>⟨rfl,I.je (t':=s.toks) (ch:=[z,TI,TO,i1,i2]) (fun b o hb e=>?_) hf⟩
  simp only[List.mem_cons,List.not_mem_nil,or_false,not_or]at hb
  exact hk b o hb.1 hb.2.2.1 hb.2.2.2.1 hb.2.2.2.2 e
 self:=fun _ _ s _ _ st h=>wpAny_pyIter_zip st.1 h
noncomputable abbrev JM (h:Heap) (x:Str) (t:Tok):Heap:=h.push { cls:= .type (strIterType x),data:= .fields #[.str x t, .int 0 0] }
noncomputable abbrev JN (h:Heap) (x:Str) (t:Tok) (m:Addr):Heap:=FA (JM h x t) "tuple_iterator" m
noncomputable abbrev JO (h:Heap) (x:Str) (t:Tok) (m:Addr):Heap:=(JN h x t m).push { cls:= .type "tuple",data:= .seq #[.ref h.objs.size, .ref (JM h x t).objs.size] }
noncomputable abbrev JP (h:Heap) (x:Str) (t:Tok) (m:Addr):Heap:=(JO h x t m).push { cls:= .type "tuple",data:= .seq #[.none, .none] }
noncomputable abbrev FC (h:Heap) (x:Str) (t:Tok) (m:Addr):Heap:=(JP h x t m).push { cls:= .type "zip",data:= .fields #[.none, .bool false, .bool false, .ref (JN h x t m).objs.size, .ref (JO h x t m).objs.size] }
set_option maxHeartbeats 4000000 in
theorem qv (x:Str) (t:Tok) (m:Addr) (ys:Array Value):Meets (Builtin.«zip.__new__» ⟨[.type "zip", .str x t, .ref m],[]⟩) (fun _ R s=>s.heap.IsTuple m ys/\R (.ok (.ret (.ref (JP s.heap x t m).objs.size))) { s with heap:=FC s.heap x t m }):=
 .of_wp fun prog w A R s h=>by
  obtain ⟨hp,g,d,tk,os⟩:=s;obtain ⟨q2,h⟩:=h;have AM:=sub_zip
  have k2:Heap.IsTuple (Shared.heap ⟨hp.push { cls:= .type (strIterType x),data:= .fields #[.str x t, .int 0 0] },g,d,tk,os⟩) m ys:=by
   obtain ⟨o,e,r⟩:=q2
   exact ⟨o,Heap.get?_push_of_some _ e,r⟩
  have k1: ∀{A':Around} {E':Value->Shared->Prop} {Q':Value->Shared->Prop},Q' (.ref hp.objs.size) ⟨hp.push { cls:= .type (strIterType x),data:= .fields #[.str x t, .int 0 0] },g,d,tk,os⟩->wpAny (model prog w) A' (pyIter (.str x t)) Q' E' ⟨hp,g,d,tk,os⟩:=fun h=>wpAny_pyIter_strU (s:=⟨hp,g,d,tk,os⟩) h
  wp_walk using k1,wpAny_pyIter_tuple k2
  exact ⟨_,rfl,h⟩
theorem Ea (x:Str) (t:Tok) (m:Addr) (ys:Array Value) {prog:Program} {w:World} {A:Around} {E:Value->Shared->Prop} {s:Shared} {Q:Value->Shared->Prop} (p2:s.heap.IsTuple m ys)
  (h: ∀h',IsZip h' (s.heap.objs.size+4) (s.heap.objs.size+2) (s.heap.objs.size+3) .none->IsPair h' (s.heap.objs.size+2) (.ref s.heap.objs.size) (.ref (s.heap.objs.size+1))->
   IsPair h' (s.heap.objs.size+3) .none .none->h'.get? s.heap.objs.size=some { cls:= .type (strIterType x),data:= .fields #[.str x t, .int 0 0] }->h'.get? (s.heap.objs.size+1)=some { cls:= .type "tuple_iterator",data:= .fields #[.ref m, .int 0 0] }->
   (∀b o,s.heap.get? b=some o->h'.get? b=some o)->Q (.ref (s.heap.objs.size+4)) { s with heap:=h' }):
  wpAny (model prog w) A (call (.type "zip") [.str x t, .ref m]) Q E s:=by
 refine callType_new F.called_zip (by decide) (F.typeCall_zip_2 _ _) (F.newCall_zip_2 _ _) (fun ob=>F.args_object_init_3 ob _ _) F.entry_zip_new (qv x t m ys) ⟨p2,?_⟩
 have e1:(JM s.heap x t).objs.size=s.heap.objs.size+1:=Heap.size_push ..
 have e2:(JN s.heap x t m).objs.size=s.heap.objs.size+2:=by rw[Heap.size_push,e1]
 have e3:(JO s.heap x t m).objs.size=s.heap.objs.size+3:=by rw[Heap.size_push,e2]
 have e4:(JP s.heap x t m).objs.size=s.heap.objs.size+4:=by rw[Heap.size_push,e3]
 have g5:(FC s.heap x t m).get? (JP s.heap x t m).objs.size=some _:=Heap.get?_push_size _ rfl
 have g4:(FC s.heap x t m).get? (JO s.heap x t m).objs.size=some _:=Heap.get?_push_of_some _ (Heap.get?_push_size _ rfl)
 have g3:(FC s.heap x t m).get? (JN s.heap x t m).objs.size=some _:=Heap.get?_push_of_some _ (Heap.get?_push_of_some _ (Heap.get?_push_size _ rfl))
 have g2:(FC s.heap x t m).get? (JM s.heap x t).objs.size=some _:=Heap.get?_push_of_some _ (Heap.get?_push_of_some _ (Heap.get?_push_of_some _ (Heap.get?_push_size _ rfl)))
 have g1:(FC s.heap x t m).get? s.heap.objs.size=some _:=Heap.get?_push_of_some _ (Heap.get?_push_of_some _ (Heap.get?_push_of_some _ (Heap.get?_push_of_some _ (Heap.get?_push_size _ rfl))))
 show _/\_
 rw[e2,e3,e4]at g5
 rw[e1,e2]at g3
 rw[e3]at g4
 rw[e1]at g2
 rw[e4]
 exact ⟨⟨_,g5,rfl⟩,h _ g5 g3 g4 g1 g2 fun b o x=>Heap.get?_push_of_some _ (Heap.get?_push_of_some _ (Heap.get?_push_of_some _ (Heap.get?_push_of_some _ (Heap.get?_push_of_some _ x))))⟩
theorem AY {n m:Nat} (h2:m<n):ZA (n+4:Nat) (n+2:Nat) (n+3:Nat) n (n+1:Nat) [n] [(n+1:Nat),m]:=by
 have n1: ∀{a b:Nat},a≠b->(a:Addr)∉([b]:List Addr):=fun h q=>h (List.mem_singleton.mp q)
 exact ⟨List.mem_cons_self,List.mem_cons_self,n1 (a:=n+4) (by omega),AW (a:=n+4) (b:=n+1) (c:=m) (by omega) (by omega),n1 (a:=n+3) (by omega),AW (a:=n+3) (b:=n+1) (c:=m) (by omega) (by omega),
  AW (a:=n) (b:=n+1) (c:=m) (by omega) (by omega),n1 (a:=n+1) (by omega),zQ (a:=n+2) (b:=n+4) (by omega),zQ (a:=n+2) (b:=n+3) (by omega),zQ (a:=n+2) (b:=n) (by omega),zQ (a:=n+2) (b:=n+1) (by omega),zQ (a:=n+3) (b:=n+4) (by omega)⟩
section
variable {X:Cx} {elts:List Expr} {k:Nat} {pos':Pos} {a b:Expr} {ta:TA} {p pos:Pos}
noncomputable abbrev Hi (l:List Nat):Hp->List V->Prop:=fun _ xs=>xs=bY l
noncomputable def Eb (K:PySem.W.Frag) (ta:TA):TI:=fun σ H R=>ta σ H fun vs H1=> ∃l b,vs=[.str (S l), .ref b]/\(∃ys,aW K H1 b ys)/\R (B4 (Hi l) (vV K b)) H1
theorem yp (K:PySem.W.Frag) (hK:X.K=K) (hg:Gl X "zip") (hm:X.mg "zip"=none) (ha:PA X [a,b] ta) (hs:starEach [a,b] X.env=[(false,eval a X.env),(false,eval b X.env)]:=by rfl) (oI:starEach [b] X.env=[(false,eval b X.env)]:=by rfl):
  PI X (.Tuple elts k pos') (.Call (.Name "zip" p) [a,b] [] pos) (Eb K ta):=by
 subst hK
 intro pins s σ H R I h
 refine Call_ (cJ I hg hm boot_zip (PyProof.Rows.callWith_type1 (bU (ha pos pins s σ H _ I h) fun us s1 ⟨vs,H1,I1,r1,q1⟩=>?_) (by rw[hs,oI]) (by rw[oI];rfl)))
 obtain ⟨l,v,rfl,⟨ys,hy⟩,q⟩:=q1
 obtain ⟨u',v',rfl,ru,rv⟩:=vals2 r1
 obtain ⟨t,rfl⟩:=ru
 cases rv
 obtain ⟨yi,_,py,_⟩:=I1.tuple hy
 obtain ⟨oy,ey,_⟩:=id py
 have lv:=Heap.lt_size ey
 refine Ea (S l) t v yi.toArray py fun h' z1 z2 z3 z4 z5 kk=>wpAny_pyIter_zip z1 ?_
 refine ⟨s1.heap.objs.size+4,[s1.heap.objs.size+4,s1.heap.objs.size+2,s1.heap.objs.size+3,s1.heap.objs.size,s1.heap.objs.size+1],_,_,H1,rfl,I1.kept (t':=s1.toks) kk,vW (D9 s1.heap.objs.size l t) ((so v (s1.heap.objs.size+1)).zt (Nat.ne_of_lt (Nat.lt_succ_of_lt lv))) (AY lv),
  ⟨z1,z2,⟨_,_,z3⟩,⟨_,z4,rfl,rfl⟩,⟨_,z5,rfl,rfl⟩⟩,fun e he=>?_,q⟩
 have Hj:s1.heap.objs.size<=e:=by
  simp only[List.mem_cons,List.not_mem_nil,or_false]at he
  rcases he with g | g | g | g | g<;>rw[g]<;>omega
 exact I1.iZ Hj (I1.bh.fresh Hj)
end
end L2
set_option maxHeartbeats 1000000
namespace L2
open PySem PySem.Spec PyProof.Rows
section
variable {X:Cx}
end
end L2
namespace L2.F2
open PySem PySem.Spec PyProof.Rows
end L2.F2
namespace L2
open PySem PySem.Spec PyProof.Rows
section
variable {prog:Program} {w:World} {A:Around} {E:Value->Shared->Prop} {s:Shared}
noncomputable def Ma (h:Heap) (it a:Addr) (i:Int):Prop:= ∃o,h.get? it=some o/\o.cls= .type "reversed"/\o.data= .fields #[.ref a,rawInt i]
end
section
variable {X:Cx} {tg:Expr}
end
theorem sq {K:PySem.W.Frag} {a:Addr} {xs:List V} {σc:St} {g:TG} {tc:TT} {te:TE} {Q:VK} {H1:Hp} (Pv:Nat->List V->Hp->Prop) (hn:xs.length<sizeLine) (hl: ∀i acc H,Pv i acc H->aT K H a xs) (h0:Pv 0 [] H1)
  (hs: ∀(i:Nat) (x:V) (acc:List V) (H:Hp) (T:Addr) (Nx:List V->Hp->Prop),xs[i]? =some x->acc.length<=i->Pv i acc H->H T=none->(∀bu H',bu.length<=i+1->Pv (i+1) bu H'->Nx bu H')->
   g (.ref T) σc (upd H T (.tup [.int i,x])) fun σ2 H2=>Wk σc σ2/\tc σ2 H2 fun b H3=>if b=true then te σ2 H3 fun v H4=>Nx (acc++[v]) H4 else Nx acc H3)
  (hd: ∀acc H D,acc.length<=xs.length->Pv xs.length acc H->H D=none->Q (.ref D) (upd H D (.lst acc))):jb (vL K a) σc g tc te Q H1:=by
 refine ⟨fun i m acc H=>m=xs.length - i/\i<=xs.length/\acc.length<=i/\Pv i acc H,⟨xs.length,by simp,Nat.zero_le _,Nat.le_refl _,h0⟩,?_⟩
 rintro i m acc H ⟨rfl,hi,vh,p⟩
 refine ⟨by omega,?_⟩
 by_cases cN:i<xs.length
 ·refine .inr ⟨⟨xs,xs[i],hl i acc H p,List.getElem?_eq_getElem cN⟩,fun x H' y=>?_⟩
  obtain ⟨T,z,hy,rfl,hT,rfl⟩:=y
  exact hs i z acc _ T (fun bu H'=> ∃m',m'<xs.length - i/\(m'=xs.length - (i+1)/\i+1<=xs.length/\bu.length<=i+1/\Pv (i+1) bu H')) (hy xs (hl i acc H p)) vh p hT fun bu H' h1 h2=>⟨xs.length - (i+1),by omega,rfl,cN,h1,h2⟩
 ·have e:i=xs.length:=by omega
  subst e
  exact .inl ⟨⟨xs,hl _ acc H p,rfl⟩,fun D hD=>hd acc H D vh p hD⟩
end L2
set_option maxHeartbeats 1000000
namespace L2
open PySem PySem.Spec PyProof.Rows
section
variable {X:Cx}
noncomputable def Ec:List V->Hp->VK->Prop:=fun xs H Q=> ∃d kvs,xs=[.ref d]/\H d=some (.dK kvs)/\kvs.length<=100000/\ ∀l,H l=none->Q (.ref l) (upd H l (.lst (kvs.map fun kv=>kV kv.1)))
theorem vX {P:Program} {w:World} {k:Key} {u:Value} (h:(bN P w).is k u=true):RelV (kV k) u:=by
 rcases bG h with ⟨i,t,rfl,rfl⟩ | ⟨x,t,rfl,rfl⟩
 ·exact ⟨t,rfl⟩
 ·exact ⟨t,rfl⟩
theorem sr (hc:X.calm=true):cV X (.type "list") Ec:=by
 intro pins s σ H xs us Q I r h
 obtain ⟨d,kvs,rfl,hd,hz,q⟩:=h
 obtain ⟨u,rfl,ru⟩:=vals1 r
 cases ru
 obtain ⟨z,lo,ws,kv,dd⟩:=B3 I.bh hd
 obtain ⟨o,es,ep,ho,he,Mb,hk,Mc,hn⟩:=dd
 have hm:s.heap.DictAt (bN X.prog X.w) d ws ep:=⟨o,es,ho,he,Mb,hk,Mc,hn⟩
 have UY:ws.length=kvs.length:=kv.length.symm
 have Hk:=kv.keys
 have hs:(100000:Nat)<sizeLine:=by decide
 refine PySem.W.kdl_call (PySem.W.kdl_dict (knd:=bN X.prog X.w) (kvs:=ws) (ep:=ep) lo) (I.ok.hd hc) hm (by omega) fun h' tk bu c' UZ e rX=>?_
 obtain ⟨h1,h2⟩:=rX
 refine ⟨.ref s.heap.objs.size,_,I.laid (t':=tk) (o:= .lst (kvs.map fun kv=>kV kv.1)) UZ (Nat.le_refl _) ?_,rfl,q _ I.fresh⟩
 refine ⟨by rw[List.length_map];omega,bu.toList,c',?_,by simpa using e⟩
 have gen: ∀(l:List (Key×V)) (vs:List Value),vs.length=l.length->(∀(j:Nat) (v:Value),vs[j]? =some v-> ∃k,(l.map (·.1))[j]? =some k/\(bN X.prog X.w).is k v=true)->Vals (l.map fun kv=>kV kv.1) vs:=by
  intro l
  induction l with
  | nil=>intro vs hl _;cases vs with
   | nil=>exact .nil
   | cons _ _=>cases hl
  | cons p l ih=>
   intro vs hl h
   cases vs with
   | nil=>cases hl
   | cons v vs=>
    obtain ⟨k,hk,hi⟩:=h 0 v rfl
    cases hk
    exact .cons (vX hi) (ih vs (by simpa using hl) fun j w hj=>by have:=h (j+1) w (by simpa using hj);simpa using this)
 refine gen kvs bu.toList (by rw[<-UY];simpa using h1) fun j v ej=>?_
 obtain ⟨k,x,ek,ei⟩:=h2 j v (by simpa using ej)
 refine ⟨k,?_,ei⟩
 rw[Hk,List.getElem?_map,ek]
 rfl
theorem yq {i:Nat} (h:(i:Int)<2 ^ 63):Builtin.List.listFitsIndex (i:Int)=true:=by
 unfold Builtin.List.listFitsIndex
 rw[Bool.and_eq_true]
 exact ⟨decide_eq_true (by omega),decide_eq_true (by omega)⟩
noncomputable def AZ:V->List V->Hp->VK->Prop:=fun x vs H Q=> ∃(l:Addr) (xs:List V) (i:Nat) (y:V),x= .ref l/\vs=[.int i,y]/\H l=some (.lst xs)/\i<=xs.length/\xs.length<sizeLine/\Q .bW (upd H l (.lst (xs.take i++y::xs.drop i)))
theorem jR:GJ X "list.insert" AZ:=by
 intro pins s σ H x vs v us Q I rx rv h
 obtain ⟨l,xs,i,y,rfl,rfl,hH,hi,hz,q⟩:=h
 cases rx
 obtain ⟨a,b,rfl,⟨t,rfl⟩,rb⟩:=vals2 rv
 obtain ⟨z,ay,n,r,hl,e⟩:=I.mP hH
 have hn:=fi
 have hf: ¬(!Builtin.List.listFitsIndex (i:Int))=true:=by rw[yq (by omega)];decide
 have hsz:ay.toArray.size<=sizeLine:=by rw[List.size_toArray];omega
 generalize hI:(i:Int)=I' at hf
 have hm:=PySem.AutoSeq1.list_insert_list_int_val_1 l ay.toArray n I' t b hf hsz
 refine call_meets F.slot_list_insert ⟨_,e,rfl⟩ F.entry_list_insert (F.args_list_insert_3 _ _ _) hm ⟨e,?_⟩
 clear hm
 refine ⟨.bW,_,I.xS (its':=ay.take i++b::ay.drop i) hH e ?_ ?_ ?_,rfl,q⟩
 ·have e1:(if I'<0 then (I'+(ay.toArray.size:Int)).toNat else min I'.toNat ay.toArray.size)=i:=by rw[<-hI,if_neg (by omega),Int.toNat_natCast,List.size_toArray];omega
  show ((ay.toArray.extract 0 (if I'<0 then (I'+(ay.toArray.size:Int)).toNat else min I'.toNat ay.toArray.size)).push b++ay.toArray.extract (if I'<0 then (I'+(ay.toArray.size:Int)).toNat else min I'.toNat ay.toArray.size))=_
  rw[e1]
  apply Array.toList_inj.mp
  simp
  exact List.take_of_length_le (by rw[List.length_drop];exact Nat.le_refl _)
 ·have h1:Vals (xs.take i) (ay.take i):=r.take i
  exact h1.append (.cons rb (r.drop i))
 ·rw[List.length_append,List.length_cons,List.length_take,List.length_drop];omega
noncomputable def Ed (K:PySem.W.Frag):V->List V->Hp->VK->Prop:=fun x vs H Q=> ∃(p:Addr) (ls:List (List Nat)),x= .str (S [])/\vs=[.ref p]/\aW K H p (ls.map fun l=>V.str (S l))/\(ls.map List.length).sum<=16777216/\Q (.str (S ls.flatten)) H
theorem yr (K:PySem.W.Frag) (h:X.K=K):vz X "str.join" (Ed K):=by
 subst h
 intro pins s σ H x xs v us Q I rx rv h
 obtain ⟨p,ls,rfl,rfl,hq,hz,q⟩:=h
 obtain ⟨t,rfl⟩:=rx
 obtain ⟨u,rfl,ru⟩:=vals1 rv
 cases ru
 obtain ⟨ay,r,pl,_⟩:=I.tuple hq
 have e:(S []).length=0:=rfl
 refine join_tuple pl (by simpa using iH r) ?_ fun t' k=>?_
 ·rw[e,Nat.mul_zero,Nat.add_zero,List.map_map]
  have e2:(Str.length ∘ S)=List.length:=by funext l;exact cP l
  have e3:((fun x:Str=>x.length) ∘ S)=List.length:=by funext l;exact cP l
  first | (rw[e2];exact hz) | (rw[e3];exact hz)
 ·exact ⟨.str (S ls.flatten),H,I.tok _,⟨t',congrArg (fun z=>Value.str z t') (x3 ls)⟩,q⟩
noncomputable def vY (ta:TA):TE:=fun σ H Q=>ta σ H fun vs H1=> ∃j:Int,vs=[.int j]/\ -(2 ^ 61)<=j/\j<=1000000/\ ∀q,H1 q=none->Q (.ref q) (upd H1 q (.lst ((List.range j.toNat).map fun (k:Nat)=>V.int (0+(k:Int)))))
noncomputable def vZ (ta:TA):TE:=fun σ H Q=>ta σ H fun vs H1=> ∃i j:Int,vs=[.int i, .int j]/\(-(2 ^ 61)<=i/\i<2 ^ 61/\ -(2 ^ 61)<=j/\j<2 ^ 61)/\j - i<=1000000/\ ∀q,H1 q=none->Q (.ref q) (upd H1 q (.lst ((List.range (j - i).toNat).map fun (k:Nat)=>V.int (i+(k:Int)))))
theorem qw {i:Int}: ∀(n:Nat) (vs:List Value),vs.length=n->(∀(j:Nat) (v:Value),vs[j]? =some v-> ∃t,v= .int (i+(j:Int)*1) t)->Vals ((List.range n).map fun (k:Nat)=>V.int (i+(k:Int))) vs
 | 0,vs,hl,_=>by
  obtain rfl:vs=[]:=List.length_eq_zero_iff.mp hl
  exact .nil
 | n+1,vs,hl,h=>by
  have e:vs=vs.take n++[vs[n]'(by omega)]:=by
   conv=>lhs;rw[<-List.take_length (l:=vs),hl,List.take_succ_eq_append_getElem (by omega)]
  obtain ⟨t,ht⟩:=h n (vs[n]'(by omega)) (List.getElem?_eq_getElem _)
  rw[e,List.range_succ,List.map_append]
  refine (qw n (vs.take n) (by rw[List.length_take];omega) fun j w hj=>h j w ?_).append (.cons ⟨t,?_⟩ .nil)
  ·have U0:=(List.getElem?_eq_some_iff.mp hj).1
   rw[List.length_take]at U0
   rw[List.getElem?_take_of_lt (by omega)]at hj
   exact hj
  ·rw[ht,Int.mul_one]
theorem qx {pins:List (Addr×Obj)} {σ:St} {H:Hp} {s:Shared} {Q:VK} {lo hi:Int} {t u v:Tok} {tk:Nat} (hc:X.calm=true) (I:Inv X pins σ H s) (h1: -(2 ^ 61)<=lo) (h2:lo<2 ^ 61) (h3: -(2 ^ 61)<=hi) (h4:hi<2 ^ 61) (hz:hi - lo<=1000000)
  (q: ∀p,H p=none->Q (.ref p) (upd H p (.lst ((List.range (hi - lo).toNat).map fun (k:Nat)=>V.int (lo+(k:Int)))))):
  wpAny (model X.prog X.w) X.A (call (.type "list") [.ref s.heap.objs.size]) (EP X pins σ Q) X.xe { s with heap:=s.heap.push { cls:= .type "range",data:= .fields #[.int lo t, .int hi u, .int 1 v] },toks:=tk }:=by
 have hs:(1000000:Nat)<sizeLine:=by decide
 refine PySem.call_list_range (n:=(hi - lo).toNat) (I.ok.hd hc) (IsRange.new ..) (small_one (by omega) (by omega) (by omega) (by omega)) (by rw[rangeSize_one];split<;>omega) (by omega) fun h' U1 bu c' hk e rX=>?_
 obtain ⟨U2,U3⟩:=rX
 have hsz:(s.heap.push { cls:= .type "range",data:= .fields #[.int lo t, .int hi u, .int 1 v] }).objs.size=s.heap.objs.size+1:=Heap.size_push _ _
 refine ⟨.ref _,_,I.laid (t':=U1) (o:= .lst ((List.range (hi - lo).toNat).map fun (k:Nat)=>V.int (lo+(k:Int)))) (fun b o hb=>hk b o (Heap.get?_push_of_some _ hb)) (Nat.le_of_lt (by show s.heap.objs.size<_;rw[hsz];exact Nat.lt_succ_self _)) ?_,rfl,q _ (I.bh.fresh (Nat.le_of_lt (by show s.heap.objs.size<_;rw[hsz];exact Nat.lt_succ_self _)))⟩
 exact ⟨by rw[List.length_map,List.length_range];omega,bu.toList,c',qw _ _ (by simpa using U2) (fun j v e=>U3 j v (by simpa using e)),by simpa using e⟩
theorem gS {a:Expr} {ta:TA} {p p2 pos o5:Pos} (hc:X.calm=true) (FD:Gl X "list") (FE:X.mg "list"=none) (hg:Gl X "range") (hm:X.mg "range"=none) (ha:PA X [a] ta)
  (hs:starEach [a] X.env=[(false,eval a X.env)]:=by rfl) (oI:starEach [.Call (.Name "range" p2) [a] [] o5] X.env=[(false,eval (.Call (.Name "range" p2) [a] [] o5) X.env)]:=by rfl):
  PE X (.Call (.Name "list" p) [.Call (.Name "range" p2) [a] [] o5] [] pos) (vY ta):=by
 intro pins s σ H Q I h
 refine Call_ (cJ I FD FE boot_list (PyProof.Rows.callWith_type1 ?_ oI rfl))
 rw[oI]
 refine Calls.spliced_cons ?_
 refine Call_ (cJ I hg hm boot_range (PyProof.Rows.callWith_type1 (bU (ha o5 pins s σ H _ I h) fun us s1 ⟨vs,H1,I1,r1,q1⟩=>?_) hs rfl))
 obtain ⟨j,rfl,q1,q2,q⟩:=q1
 obtain ⟨u,rfl,t,rfl⟩:=vals1 r1
 refine call_range_1 ?_
 refine Calls.spliced_nil ?_
 refine qx hc I1 (by omega) (by omega) q1 (by omega) (by omega) (by simpa using q)
theorem ka {a b:Expr} {ta:TA} {p p2 pos o5:Pos} (hc:X.calm=true) (FD:Gl X "list") (FE:X.mg "list"=none) (hg:Gl X "range") (hm:X.mg "range"=none) (ha:PA X [a,b] ta)
  (hs:starEach [a,b] X.env=[(false,eval a X.env),(false,eval b X.env)]:=by rfl) (Sx:starEach [b] X.env=[(false,eval b X.env)]:=by rfl) (oI:starEach [.Call (.Name "range" p2) [a,b] [] o5] X.env=[(false,eval (.Call (.Name "range" p2) [a,b] [] o5) X.env)]:=by rfl):
  PE X (.Call (.Name "list" p) [.Call (.Name "range" p2) [a,b] [] o5] [] pos) (vZ ta):=by
 intro pins s σ H Q I h
 refine Call_ (cJ I FD FE boot_list (PyProof.Rows.callWith_type1 ?_ oI rfl))
 rw[oI]
 refine Calls.spliced_cons ?_
 refine Call_ (cJ I hg hm boot_range (PyProof.Rows.callWith_type1 (bU (ha o5 pins s σ H _ I h) fun us s1 ⟨vs,H1,I1,r1,q1⟩=>?_) (by rw[hs,Sx]) (by rw[Sx];rfl)))
 obtain ⟨i,j,rfl,⟨q1,q2,q3,q4⟩,q5,q⟩:=q1
 obtain ⟨u,u',rfl,⟨t,rfl⟩,⟨t',rfl⟩⟩:=vals2 r1
 refine call_range_2 ?_
 refine Calls.spliced_nil ?_
 exact qx hc I1 q1 q2 q3 q4 q5 q
end
end L2
namespace L2
open PySem PySem.Spec PyProof.Rows PySem.W
section
noncomputable def Ev (lt:Nat->Nat->Bool) (n:Nat) {α:Type}:KasT α->(α->Prop)->Prop
 | .ret a,Q=>Q a
 | .ask i j k,Q=>i<n/\j<n/\Ev lt n (k (lt i j)) Q
theorem Ev.bind {lt:Nat->Nat->Bool} {n:Nat} {α β:Type} {f:α->KasT β} {Q:β->Prop}: ∀{t:KasT α},Ev lt n t (fun a=>Ev lt n (f a) Q)->Ev lt n (t.bind f) Q
 | .ret _,h=>h
 | .ask _ _ _,⟨a,b,h⟩=>⟨a,b,Ev.bind h⟩
theorem Ev.wp {lt:Nat->Nat->Bool} {n:Nat} {α:Type} {cmp:Nat->Nat->(Bool->Shared->Prop)->Shared->Prop} {s:Shared} (hc: ∀i j,i<n->j<n-> ∀C:Bool->Shared->Prop,C (lt i j) s->cmp i j C s) {Q:α->Prop} {G:α->Shared->Prop} (hq: ∀a,Q a->G a s): ∀{t:KasT α},Ev lt n t Q->t.kasWp cmp G s
 | .ret a,h=>hq a h
 | .ask i j k,⟨a,b,h⟩=>hc i j a b _ (Ev.wp hc hq h)
structure B5 (lt:Nat->Nat->Bool) (n:Nat):Prop where
 tr: ∀a b c,lt b a=false->lt c b=false->lt c a=false
 sm: ∀a b,lt a b=true->lt b a=false
 tt: ∀a b,a<n->b<n->a≠b->lt a b=false->lt b a=true
noncomputable def Pm (p:Array Nat) (n:Nat):Prop:=p.Perm (List.range n).toArray
theorem gd (p:Array Nat) (i:Nat):p.getD i 0=p[i]?.getD 0:=by simp[Array.getD_eq_getD_getElem?]
theorem Pm.size {p:Array Nat} {n:Nat} (h:Pm p n):p.size=n:=by have:=h.size_eq;simpa using this
theorem Pm.lt {p:Array Nat} {n:Nat} (h:Pm p n) (hn:0<n) (i:Nat):p.getD i 0<n:=by
 rw[gd]
 by_cases hi:i<p.size
 ·rw[Array.getElem?_eq_getElem hi]
  have m:p[i]∈p:=Array.getElem_mem hi
  have:=h.mem_iff.mp m
  simpa using this
 ·rw[Array.getElem?_eq_none (by omega)];exact hn
theorem Pm.ne {p:Array Nat} {n i j:Nat} (h:Pm p n) (hi:i<n) (hj:j<n) (su:i≠j):p.getD i 0≠p.getD j 0:=by
 have hs:=h.size
 have nd:p.toList.Nodup:=(Array.perm_iff_toList_perm.mp h).nodup_iff.mpr (by simpa using List.nodup_range)
 have h1:i<p.size:=by omega
 have h2:j<p.size:=by omega
 rw[gd,gd,Array.getElem?_eq_getElem h1,Array.getElem?_eq_getElem h2]
 intro e
 have e2:p.toList[i]'(by simpa using h1)=p.toList[j]'(by simpa using h2):=by simpa using e
 exact su ((List.getElem_inj nd).mp e2)
section
variable {lt:Nat->Nat->Bool} {n:Nat}
noncomputable def o6 (lt:Nat->Nat->Bool) (p:Array Nat) (k:Nat):Prop:= ∀i j,i<j->j<k->lt (p.getD j 0) (p.getD i 0)=false
noncomputable def Ee (lt:Nat->Nat->Bool) (p:Array Nat) (k:Nat):Prop:= ∀i j,i<j->j<k->lt (p.getD i 0) (p.getD j 0)=false
theorem sx (T:B5 lt n) (hn:0<n) {p:Array Nat} (hp:Pm p n) {Q:Nat->Prop}: ∀f m,1<=m->o6 lt p m->(∀m',m<=m'->m'<=m+f->o6 lt p m'->(m'<m+f->lt (p.getD m' 0) (p.getD (m' - 1) 0)=true)->Q m')->Ev lt n (kas_asc p f m) Q
 | 0,m,_,up,q=>q m (Nat.le_refl _) (Nat.le_refl _) up (fun h=>absurd h (by omega))
 | f+1,m,h1,up,q=>by
  refine ⟨hp.lt hn _,hp.lt hn _,?_⟩
  cases c:lt (p.getD m 0) (p.getD (m - 1) 0) with
  | true=>
   show Ev lt n (if true=true then _ else _) _
   rw[if_pos rfl]
   exact q m (Nat.le_refl _) (by omega) up (fun _=>c)
  | false=>
   show Ev lt n (if false=true then _ else _) _
   rw[if_neg Bool.false_ne_true]
   refine sx T hn hp f (m+1) (by omega) (fun i j su hj=>?_) (fun m' a b u g=>q m' (by omega) (by omega) u (fun z=>g (by omega)))
   by_cases Md:j<m
   ·exact up i j su Md
   ·have Me:j=m:=by omega
    subst Me
    by_cases hi:i=j - 1
    ·subst hi;exact c
    ·exact T.tr _ _ _ (up i (j - 1) (by omega) (by omega)) c
theorem uE (T:B5 lt n) (hn:0<n) {p:Array Nat} (hp:Pm p n) {Q:Array Nat×Nat×Nat->Prop}: ∀f m,1<=m->m+f<=n->Ee lt p m->(∀m',m<=m'->m'<=m+f->Ee lt p m'->Q (p,m',0))->Ev lt n (kas_desc f p m 0) Q
 | 0,m,_,_,up,q=>q m (Nat.le_refl _) (Nat.le_refl _) up
 | f+1,m,h1,hf,up,q=>by
  refine ⟨hp.lt hn _,hp.lt hn _,?_⟩
  cases c:lt (p.getD m 0) (p.getD (m - 1) 0) with
  | true=>
   show Ev lt n (if true=true then _ else _) _
   rw[if_pos rfl,if_neg (show ¬((0:Nat)>0) by decide)]
   refine uE T hn hp f (m+1) (by omega) (by omega) (fun i j su hj=>?_) (fun m' a b u=>q m' (by omega) (by omega) u)
   by_cases Md:j<m
   ·exact up i j su Md
   ·have Me:j=m:=by omega
    subst Me
    have c2:=T.sm _ _ c
    by_cases hi:i=j - 1
    ·subst hi;exact c2
    ·exact T.tr _ _ _ c2 (up i (j - 1) (by omega) (by omega))
  | false=>
   show Ev lt n (if false=true then _ else _) _
   rw[if_neg Bool.false_ne_true]
   refine ⟨hp.lt hn _,hp.lt hn _,?_⟩
   rw[T.tt _ _ (hp.lt hn _) (hp.lt hn _) (hp.ne (by omega) (by omega) (by omega)) c]
   show Ev lt n (if true=true then _ else _) _
   rw[if_pos rfl]
   exact q m (Nat.le_refl _) (by omega) up
theorem yt {p:Array Nat} (hp:Pm p n) (i j:Nat):Pm (kas_rev p i j) n:=(mirror_perm p i j _).trans hp
theorem uF {p:Array Nat} {m:Nat} (hm:m<=p.size) (k:Nat):(kas_rev p 0 m).getD k 0=if k<m then p.getD (m - 1 - k) 0 else p.getD k 0:=by
 rw[gd,gd,gd]
 unfold kas_rev
 rw[getElem?_mirror_all hm]
 by_cases h:k<m
 ·rw[if_pos ⟨Nat.zero_le _,h⟩,if_pos h]
  congr 2
  omega
 ·rw[if_neg (fun z=>h z.2),if_neg h]
theorem yu (T:B5 lt n) (hn:0<n) {p:Array Nat} (hp:Pm p n) {m:Nat} (h1:1<=m) (hm:m<=n) (dn:Ee lt p m) {Q:Nat×Array Nat->Prop} (q: ∀m' p',1<=m'->m'<=n->Pm p' n->o6 lt p' m'->Q (m',p')):Ev lt n (kas_tail3 m n p) Q:=by
 refine Ev.bind (sx T hn (yt hp 0 m) (n - m) m h1 (fun i j su hj=>?_) (fun m' a b u _=>q m' _ (by omega) (by omega) (yt hp 0 m) u))
 have hs:=hp.size
 rw[uF (by omega),uF (by omega),if_pos hj,if_pos (by omega)]
 exact dn _ _ (by omega) (by omega)
theorem yv (T:B5 lt n) (hn:0<n) {p:Array Nat} (hp:Pm p n) {Q:Nat×Array Nat->Prop} (q: ∀m' p',1<=m'->m'<=n->Pm p' n->o6 lt p' m'->Q (m',p')):Ev lt n (kas_count n p) Q:=by
 refine Ev.bind (sx T hn hp (n - 1) 1 (Nat.le_refl _) (fun i j su hj=>absurd hj (by omega)) (fun m a b u g=>?_))
 by_cases e:m=n
 ·rw[if_pos (by simpa using e)]
  exact q m p a (by omega) hp u
 ·rw[if_neg (by simpa using e)]
  have cN:=g (by omega)
  by_cases h1:m>1
  ·rw[if_pos h1]
   refine ⟨hp.lt hn _,hp.lt hn _,?_⟩
   rw[T.tt _ _ (hp.lt hn _) (hp.lt hn _) (hp.ne (by omega) hn (by omega)) (u 0 (m - 1) (by omega) (by omega))]
   show Ev lt n (if true=true then _ else _) _
   rw[if_pos rfl]
   exact q m p a (by omega) hp u
  ·rw[if_neg h1]
   have em:m=1:=by omega
   subst em
   refine Ev.bind (uE T hn hp (n - (1+1)) (1+1) (by omega) (by omega) (fun i j su hj=>?_) (fun m' c d dn=>?_))
   ·have ei:i=0:=by omega
    have ej:j=1:=by omega
    subst ei ej
    exact T.sm _ _ cN
   ·rw[if_neg (show ¬((0:Nat)>0) by decide)]
    exact yu T hn hp (by omega) (by omega) dn q
theorem lD (T:B5 lt n) (hn:0<n) {p:Array Nat} (hp:Pm p n) {k:Nat} (up:o6 lt p k) {Q:Nat->Prop}: ∀f l r,l<=r->r<=k->r - l<=f->(∀i,i<l->lt (p.getD k 0) (p.getD i 0)=false)->(∀i,r<=i->i<k->lt (p.getD i 0) (p.getD k 0)=false)->(∀l',l'<=k->(∀i,i<l'->lt (p.getD k 0) (p.getD i 0)=false)->(∀i,l'<=i->i<k->lt (p.getD i 0) (p.getD k 0)=false)->Q l')->Ev lt n (kas_place p k f l r) Q
 | 0,l,r,h1,h2,hf,a,b,q=>q l (by omega) a (fun i hi hk=>b i (by omega) hk)
 | f+1,l,r,h1,h2,hf,a,b,q=>by
  unfold kas_place
  by_cases e:l ≥ r
  ·rw[if_pos e]
   exact q l (by omega) a (fun i hi hk=>b i (by omega) hk)
  ·rw[if_neg e]
   refine ⟨hp.lt hn _,hp.lt hn _,?_⟩
   cases c:lt (p.getD k 0) (p.getD ((l+r) / 2) 0) with
   | true=>
    show Ev lt n (if true=true then _ else _) _
    rw[if_pos rfl]
    refine lD T hn hp up f l _ (by omega) (by omega) (by omega) a (fun i hi hk=>?_) q
    have c2:=T.sm _ _ c
    by_cases ei:i=(l+r) / 2
    ·rw[ei];exact c2
    ·exact T.tr _ _ _ c2 (up ((l+r) / 2) i (by omega) hk)
   | false=>
    show Ev lt n (if false=true then _ else _) _
    rw[if_neg Bool.false_ne_true]
    refine lD T hn hp up f _ r (by omega) h2 (by omega) (fun i hi=>?_) b q
    by_cases ei:i=(l+r) / 2
    ·rw[ei];exact c
    ·exact T.tr _ _ _ (up i ((l+r) / 2) (by omega) (by omega)) c
theorem uG {p:Array Nat} {k l:Nat} (hk:k<p.size) (hl:l<=k) (i:Nat):(bubble p k (k - l)).getD i 0=if i=l then p.getD k 0 else if l<i/\i<=k then p.getD (i - 1) 0 else p.getD i 0:=by
 rw[gd,getElem?_bubble hk _ (by omega),gd,gd,gd]
 have e:k - (k - l)=l:=by omega
 rw[e]
 repeat' split
 all_goals rfl
theorem yx (T:B5 lt n) (hn:0<n) {Q:Array Nat->Prop}: ∀f (p:Array Nat) k,Pm p n->o6 lt p k->k+f<=n->(∀p',Pm p' n->o6 lt p' (k+f)->Q p')->Ev lt n (kas_bin f p k) Q
 | 0,p,k,hp,up,_,q=>q p hp up
 | f+1,p,k,hp,up,hk,q=>by
  refine Ev.bind (lD T hn hp up k 0 k (Nat.zero_le _) (Nat.le_refl _) (by omega) (fun i h=>absurd h (Nat.not_lt_zero _)) (fun i h1 h2=>absurd h1 (by omega)) (fun l hl a b=>?_))
  have hs:=hp.size
  refine yx T hn f _ (k+1) ((bubble_perm p k _).trans hp) (fun i j su hj=>?_) (by omega) (fun p' g u=>q p' g (by rwa [show k+(f+1)=k+1+f by omega]))
  rw[uG (by omega) hl,uG (by omega) hl]
  by_cases ej:j=l
  ·rw[if_pos ej,if_neg (by omega),if_neg (by omega)]
   exact a i (by omega)
  ·rw[if_neg ej]
   by_cases xt:l<j
   ·rw[if_pos ⟨xt,by omega⟩]
    by_cases ei:i=l
    ·rw[if_pos ei];exact b (j - 1) (by omega) (by omega)
    ·rw[if_neg ei]
     by_cases DR:l<i
     ·rw[if_pos ⟨DR,by omega⟩];exact up _ _ (by omega) (by omega)
     ·rw[if_neg (by omega)];exact up _ _ (by omega) (by omega)
   ·rw[if_neg (by omega),if_neg (by omega),if_neg (by omega)]
    exact up _ _ su (by omega)
theorem A0 (T:B5 lt n) (hn:0<n):Ev lt n (kas_sort n) (fun p=>Pm p n/\o6 lt p n):=by
 refine Ev.bind (yv T hn (Array.Perm.refl _) (fun m p h1 h2 hp up=>?_))
 have em:max m 1=m:=by omega
 show Ev lt n (if m<n then kas_bin (n - max m 1) p (max m 1) else .ret p) _
 rw[em]
 by_cases h:m<n
 ·rw[if_pos h]
  refine yx T hn _ p m hp up (by omega) (fun p' g u=>⟨g,?_⟩)
  rwa [show m+(n - m)=n by omega]at u
 ·rw[if_neg h]
  exact ⟨hp,by rwa [show m=n by omega]at up⟩
end
end
theorem v3 {a b c:Int×Int} (h1:bE b a=false) (h2:bE c b=false):bE c a=false:=by
 unfold bE at*
 simp only[Bool.or_eq_false_iff,Bool.and_eq_false_iff,decide_eq_false_iff_not]at*
 omega
theorem v5 {a b:Int×Int} (h:bE a b=true):bE b a=false:=by
 unfold bE at*
 simp only[Bool.or_eq_false_iff,Bool.and_eq_false_iff,decide_eq_false_iff_not,Bool.or_eq_true,Bool.and_eq_true,decide_eq_true_eq]at*
 omega
theorem v7 {a b:Int×Int} (ne:a≠b) (h:bE a b=false):bE b a=true:=by
 have ne2: ¬(a.1=b.1/\a.2=b.2):=fun z=>ne (Prod.ext z.1 z.2)
 unfold bE at*
 simp only[Bool.or_eq_false_iff,Bool.and_eq_false_iff,decide_eq_false_iff_not,Bool.or_eq_true,Bool.and_eq_true,decide_eq_true_eq]at*
 omega
noncomputable def ltN (ns:List (Int×Int)) (i j:Nat):Bool:=bE (ns.getD i (0,0)) (ns.getD j (0,0))
theorem A1 {ns:List (Int×Int)} (nd:ns.Nodup):B5 (ltN ns) ns.length where
 tr _ _ _ h1 h2:=v3 h1 h2
 sm _ _ h:=v5 h
 tt a b ha hb ne h:=by
  refine v7 (fun e=>ne ?_) h
  rw[List.getD_eq_getElem?_getD,List.getD_eq_getElem?_getD,List.getElem?_eq_getElem ha,List.getElem?_eq_getElem hb]at e
  exact (List.getElem_inj nd).mp e
section
variable {prog:Program} {w:World} {A:Around} {E:Value->Shared->Prop} {s:Shared}
theorem bA.len {h:Heap}: ∀{vs:List Value} {ns:List (Int×Int)},bA h vs ns->ns.length=vs.length
 | [],[],_=>rfl
 | _::_,_::_,⟨_,b⟩=>by rw[List.length_cons,List.length_cons,bA.len b]
 | [],_::_,h=>h.elim
 | _::_,[],h=>h.elim
noncomputable def eR (vs:List Value) (idx:List Nat):Array Value:=List.toArray (idx.map fun i=>vs.getD i Value.none)
noncomputable def nK (ns:List (Int×Int)) (idx:List Nat):Prop:=idx.Perm (List.range ns.length)/\(idx.map fun i=>ns.getD i (0,0)).Pairwise fun x y=>bE y x=false
theorem mT {a:Addr} {vs:List Value} {ns:List (Int×Int)} {n:Nat} {P:PySem.Fin->Shared->Prop} (ho:s.heap.get? a=some (seqObj "list" vs.toArray n)) (hp:bA s.heap vs ns) (Sy: ∀v∈vs,v≠ .ref a) (nd:ns.Nodup) (Fz:vs.length<64)
  (q: ∀idx,nK ns idx->P (.done (.ret .none)) { s with heap:=sortedHeap s.heap a vs (eR vs idx) }):wpAny (model prog w) A (Builtin.«list.sort» ⟨[.ref a],[]⟩) P E s:=by
 rw[list_sort_plain]
 have ha:a<s.heap.objs.size:=Heap.lt_size ho
 have i6:(64:Nat)<sizeLine:=by decide
 have hlen:=hp.len
 refine wpAny_bind (listItems_at ho rfl (wpAny_bind (listUpdate_at ho rfl ?_ (by rw[List.size_toArray];omega) (Nat.zero_le _))))
 obtain ⟨e1,zR⟩: ∃e1,(s.heap.update a (Obj.mapSeq fun _=> #[])).get? a=some (seqObj "list" #[] e1):=⟨_,get?_update_seq ho (fun _=> #[])⟩
 refine wpAny_bind (seqEpoch_at zR rfl (wpAny_bind (wpAny_newTuple (wpAny_bind (wpAny_newList (wpAny_holding ?_) (Nat.zero_le _))) (by show vs.length<=_;omega))))
 generalize hH:((s.heap.update a (Obj.mapSeq fun _=>(#[]:Array Value))).push (seqObj "tuple" vs.toArray 0)).push (seqObj "list" #[] 0)=H2
 have Sz:H2.get? a=some (seqObj "list" #[] e1):=by
  rw[<-hH]
  exact Heap.get?_push_of_some _ (Heap.get?_push_of_some _ zR)
 have keep: ∀b o,b≠a->s.heap.get? b=some o->H2.get? b=some o:=fun b o hb e=>by
  rw[<-hH]
  exact Heap.get?_push_of_some _ (Heap.get?_push_of_some _ ((Heap.get?_update_other s.heap _ (Ne.symm hb)).trans e))
 have kr:bA H2 vs ns:=by
  clear q Fz hH ho hlen nd
  revert ns
  induction vs with
  | nil=>intro ns hp;cases ns with
   | nil=>trivial
   | cons _ _=>exact hp.elim
  | cons v vs ih=>
   intro ns hp
   cases ns with
   | nil=>exact hp.elim
   | cons n ns=>
    obtain ⟨⟨x,ox,t1,t2,m,rfl,g2,g3⟩,b⟩:=hp
    exact ⟨⟨x,ox,t1,t2,m,rfl,keep x ox (fun z=>Sy _ List.mem_cons_self (by rw[z])) g2,g3⟩,ih (fun u hu=>Sy u (List.mem_cons_of_mem _ hu)) b⟩
 have fin: ∀(st:SortSt) (idx:List Nat),nK ns idx->(arrOf st).map (·.2)=eR vs idx->failedOf st=none->wpAny (model prog w) A (do { let touched:=(<-seqEpoch a) != e1;Builtin.List.listUpdate (.ref a) (fun _=>(arrOf st).map (·.2));if let some e:=failedOf st then { rule "list.sort.comparison-raised";throw e };if touched then { rule "list.sort.modified";raiseError "ValueError" "list modified during sort" };ret .none }) P E { s with heap:=H2 }:=fun st idx hi e0 e2=>by
  rw[e0,e2]
  have DR:idx.length=vs.length:=by have:=hi.1.length_eq;rw[List.length_range]at this;omega
  refine wpAny_bind (seqEpoch_at Sz rfl (wpAny_bind (listUpdate_at Sz rfl ?_ (Nat.zero_le _) (by unfold eR;rw[List.size_toArray,List.length_map];omega))))
  simp only[bne_self_eq_false,Bool.false_eq_true,if_false]
  refine wpAny_pure ?_
  have e3:sortedHeap s.heap a vs (eR vs idx)=H2.update a (Obj.mapSeq fun _=>eR vs idx):=by unfold sortedHeap;rw[hH]
  have q:=q idx hi
  rw[e3]at q
  exact q
 show wpAny (model prog w) A _ P E { s with heap:=H2 }
 dsimp only
 by_cases h2:vs.toArray.size<2
 ·rw[if_pos h2,if_pos h2]
  refine wpAny_bind (wpAny_pure ?_)
  rw[StateT.run_pure]
  refine wpAny_bind (wpAny_pure ?_)
  rw[List.size_toArray]at h2
  refine fin (SortSt.mk' general' (vs.toArray.zip vs.toArray) #[] 7 none) (List.range ns.length) ⟨List.Perm.refl _,?_⟩ ?_ rfl
  ·rw[hlen]
   have:vs.length=0\/vs.length=1:=by omega
   rcases this with e | e<;>rw[e]<;>simp[List.range_succ]
  ·show (vs.toArray.zip vs.toArray).map (·.2)=_
   apply Array.toList_inj.mp
   have e4:(vs.zip vs).map (fun x=>x.2)=vs:=uw vs
   unfold eR
   simp
   rw[e4,hlen]
   refine List.ext_getElem (by simp) fun i g1 g2=>?_
   simp
   rw[List.getElem?_eq_getElem g1]
   rfl
 ·have U4:2<=vs.length:=by rw[List.size_toArray]at h2;omega
  rw[if_neg h2,if_neg h2]
  obtain ⟨fs,k1,k2,k3⟩:=kr.jH
  refine wpAny_bind (PySem.W.kat_kind (s:={ s with heap:=H2 }) (T:= .type "int") k1 (by omega) (fun v hv=>by obtain ⟨i,t,rfl⟩:=k3 v hv;exact PySem.W.Looks.of_pure rfl) (by rfl) ?_)
  have T:=A1 nd
  rw[hlen]at T
  refine wpAny_bind (wpAny_mono (PySem.W.kat_run (Q:=fun iV s'=>s'={ s with heap:=H2 }/\ ∃idx,nK ns idx/\(arrOf iV).map (·.2)=eR vs idx/\failedOf iV=none) (G:=fun p s'=>s'={ s with heap:=H2 }/\Pm p vs.length/\o6 (ltN ns) p vs.length) rfl U4 Fz (fun p iV s' a1 a2 a3 a4=>?_) (Ev.wp (fun i j hi hj C c=>?_) (fun p hq=>⟨rfl,hq⟩) (A0 T (by omega)))) ?_ fun _ _ e=>e)
  ·obtain ⟨rfl,pm,up⟩:=a4
   refine ⟨rfl,p.toList,⟨?_,?_⟩,PySem.W.kat_snds rfl a2,a3⟩
   ·rw[hlen]
    simpa using Array.perm_iff_toList_perm.mp pm
   ·rw[List.pairwise_map,List.pairwise_iff_getElem]
    intro i j hi hj su
    have:=up i j su (by rw[<-pm.size];simpa using hj)
    rw[gd,gd,Array.getElem?_eq_getElem (by simpa using hj),Array.getElem?_eq_getElem (by simpa using hi)]at this
    simpa [ltN]using this
  ·obtain ⟨x,ex,px⟩:=kr.get (i:=i) hi
   obtain ⟨y,ey,py⟩:=kr.get (i:=j) hj
   refine AO (s:={ s with heap:=H2 }) px py ?_
   have:ltN ns i j=bE x y:=by unfold ltN;rw[List.getD_eq_getElem?_getD,List.getD_eq_getElem?_getD,ex,ey];rfl
   rw[<-this]
   exact c
  ·rintro ⟨⟨⟩,iV⟩ s' ⟨rfl,idx,g0,g1,g2⟩
   exact fin iV idx g0 g1 g2
theorem lE {tp:Addr} {T:String} {o:Obj} {vs:List Value} {ns:List (Int×Int)} {n:Nat} {Q:Value->Shared->Prop} (hT:T="list"\/T="tuple") (ho:s.heap.get? tp=some o) (hc:o.cls= .type T) (hd:o.data= .seq vs.toArray n) (hp:bA s.heap vs ns)
  (nd:ns.Nodup) (Fz:vs.length<64)
  (q: ∀(h1 h':Heap) (a:Addr) (e:Nat) (idx:List Nat),nK ns idx->(∀b o,s.heap.get? b=some o->h1.get? b=some o)->(∀b o,h1.get? b=some o->h'.get? b=some o)->a=h1.objs.size->h'.get? a=some (seqObj "list" (eR vs idx) e)->Q (.ref a) { s with heap:=h' }):
  wpAny (model prog w) A (call (.builtin "sorted") [.ref tp]) Q E s:=by
 have i6:(64:Nat)<sizeLine:=by decide
 refine Calls.call_function_entry kind_sorted plain_sorted entry_sorted (args_sorted1 _) ?_
 unfold Builtin.«sorted»
 refine wpAny_bind (m:=checkCount "sorted" 1 1 _) (wpAny_pure (wpAny_bind (wpAny_collect_seq tp hT ho hc hd (fun h1 k1=>?_) (by rw[List.size_toArray];omega))))
 refine wpAny_bind (wpAny_newList ?_ (by show vs.length<=_;omega))
 have BM:(h1.push (seqObj "list" vs.toArray 0)).get? h1.objs.size=some (seqObj "list" vs.toArray 0):=Heap.get?_push_size _ rfl
 show wpAny _ _ _ _ _ { s with heap:=h1.push (seqObj "list" vs.toArray 0) }
 have g9:=hp.keep (h':=h1) k1
 have kr:=g9.keep (h':=h1.push (seqObj "list" vs.toArray 0)) fun b o e=>Heap.get?_push_of_some _ e
 refine wpAny_bind (wpAny_holding (wpAny_call_entry slot_list_sort ⟨_,BM,rfl⟩ entry_list_sort (mT (s:={ s with heap:=h1.push (seqObj "list" vs.toArray 0) }) BM kr (g9.ne (Nat.le_refl _)) nd Fz fun idx hi=>⟨_,rfl,?_⟩) (args_list_sort _)))
 obtain ⟨e,he⟩:=sortedHeap_at (out:=eR vs idx) BM
 refine wpAny_pure ⟨_,rfl,q h1 _ _ e idx hi k1 (fun b o hb=>?_) rfl he⟩
 have cN:=Heap.lt_size hb
 rw[sortedHeap_old (Nat.ne_of_lt cN) (by rw[size_push'];exact Nat.lt_succ_of_lt cN)]
 exact Heap.get?_push_of_some _ hb
end
section
variable {X:Cx}
theorem oZ.len {K:PySem.W.Frag} {H:Hp}: ∀{vs:List V} {ns:List (Int×Int)},oZ K H vs ns->ns.length=vs.length
 | [],[],_=>rfl
 | _::_,_::_,⟨_,b⟩=>by rw[List.length_cons,List.length_cons,oZ.len b]
 | [],_::_,h=>h.elim
 | _::_,[],h=>h.elim
theorem qy {ys:List V} {us:List Value} (r:Vals ys us): ∀idx:List Nat,(∀i∈idx,i<ys.length)->Vals (idx.map fun i=>ys.getD i .bW) (idx.map fun i=>us.getD i Value.none)
 | [],_=> .nil
 | i::idx,h=>by
  have hi:=h i List.mem_cons_self
  refine .cons ?_ (qy r idx fun j hj=>h j (List.mem_cons_of_mem _ hj))
  obtain ⟨u,e,ru⟩:=r.get (List.getElem?_eq_getElem hi)
  show RelV (ys.getD i .bW) (us.getD i Value.none)
  rw[List.getD_eq_getElem?_getD,List.getD_eq_getElem?_getD,e,List.getElem?_eq_getElem hi]
  exact ru
noncomputable def Ef (K:PySem.W.Frag):List V->Hp->VK->Prop:=fun xs H Q=> ∃p ys ns,xs=[.ref p]/\(aT K H p ys\/aW K H p ys)/\oZ K H ys ns/\ns.Nodup/\ys.length<64/\ ∀q idx,nK ns idx->H q=none->Q (.ref q) (upd H q (.lst (idx.map fun i=>ys.getD i .bW)))
theorem o7 (K:PySem.W.Frag) (h:X.K=K):cV X (.builtin "sorted") (Ef K):=by
 subst h
 intro pins s σ H xs us Q I r h
 obtain ⟨p,ys,ns,rfl,hq,hv,nd,hn,q⟩:=h
 obtain ⟨u,rfl,ru⟩:=vals1 r
 cases ru
 have Fz:(64:Nat)<sizeLine:=by decide
 have YJ:=hv.len
 have fin: ∀ay:List Value,Vals ys ay-> ∀(h1 h':Heap) (a:Addr) (e:Nat) (idx:List Nat),nK ns idx->(∀b o,s.heap.get? b=some o->h1.get? b=some o)->(∀b o,h1.get? b=some o->h'.get? b=some o)->a=h1.objs.size->h'.get? a=some (seqObj "list" (eR ay idx) e)->EP X pins σ Q (.ref a) { s with heap:=h' }:=fun ay rv h1 h' a e idx hi k1 k2 ea he=>by
  have I1:Inv X pins σ H { s with heap:=h1 }:=I.kept (t':=s.toks) k1
  have DR:idx.length=ys.length:=by have:=hi.1.length_eq;rw[List.length_range]at this;omega
  have U5:=qy rv idx fun i v8=>by have:=hi.1.mem_iff.mp v8;rw[List.mem_range]at this;omega
  have I2:Inv X pins σ (upd H a (.lst (idx.map fun i=>ys.getD i .bW))) { s with heap:=h' }:=I1.laid (t':=s.toks) (a:=a) (o:= .lst (idx.map fun i=>ys.getD i .bW)) k2 (by rw[ea];exact Nat.le_refl _) ⟨by rw[List.length_map];omega,_,e,U5,by simpa [seqObj,eR]using he⟩
  exact ⟨.ref a,_,I2,rfl,q _ idx hi (I1.bh.fresh (by rw[ea];exact Nat.le_refl _))⟩
 rcases hq with hq | hq
 ·obtain ⟨ay,rv,pl,hz⟩:=I.list hq
  obtain ⟨o,ho,hc,m,hd⟩:=pl.isList
  exact lE (.inl rfl) ho hc hd (hv.at I rv) nd (by rw[<-rv.length];exact hn) (fin ay rv)
 ·obtain ⟨ay,rv,pl,hz⟩:=I.tuple hq
  obtain ⟨o,ho,hc,m,hd⟩:=pl
  exact lE (.inr rfl) ho hc hd (hv.at I rv) nd (by rw[<-rv.length];exact hn) (fin ay rv)
end
end L2
namespace L2
open PySem PySem.Spec PyProof.Rows
noncomputable def FF (lo:Int) (n:Nat):It:=⟨fun i _=>i<n,fun i H x H'=>H'=H/\x= .int (lo - i),fun i _=>n<=i⟩
theorem qA {P:Program} {w:World} {K:PySem.W.Frag} {tg:Expr} (it:Addr) (lo:Int) (n:Nat):Turn P w K tg (FF lo n) [it] it (fun i h=>IsRangeIter h it (lo+(i:Nat)*(-1)) ((n:Int) - (i:Nat)) (-1)) where
 mem:=by simp
 obj:=fun i h st b hb=>by
  have e:b=it:=by simpa using hb
  subst e
  exact ⟨_,st,fun v z=>by
   have z':Data.fields _=Data.cell v:=z
   cases z'⟩
 keep:=fun i h h' st k=>k it (by simp) _ st
 item:=by
  intro X hP hw hK hc i pins s σ H E I hf st hg
  subst hP hw hK
  obtain ⟨f0,f1,f2,f3,f4,f5⟩:=hf it (by simp)
  have W:=Walks.range (prog:=X.prog) (w:=X.w) (I.ok.hd hc) it lo (-1) n
  refine W.item i s _ _ hg st fun v h' tk hv iV kk=>?_
  obtain ⟨t,rfl⟩:=hv
  have I1:Inv X pins σ H { s with heap:=h',toks:=tk }:=I.turned (fun b o hb e=>kk b o (by simpa using hb) e) f0 f1 f3 f4 f5
  refine ⟨_,rfl,kP (s:={ s with heap:=h',toks:=tk }) (n:="range_iterator") iV rfl rfl (by decide) ⟨.int (lo - i),H,I1,⟨t,?_⟩,⟨rfl,rfl⟩,iV,fun b hb=>(hf b hb).1⟩⟩
  have e:lo+(i:Int)*(-1)=lo - (i:Int):=by omega
  rw[e]
 done:=by
  intro X hP hw hK hc i pins s σ H E I hf st hg
  subst hP hw hK
  obtain ⟨f0,f1,f2,f3,f4,f5⟩:=hf it (by simp)
  exact wpAny_pyNext_range_end (I.ok.hd hc) st (by have:n<=i:=hg;omega) fun h' eb=>⟨rfl,I.turned (t':=s.toks) (fun b o hb e=>eb b o hb e) f0 f1 f3 f4 f5⟩
 self:=fun _ _ _ _ _ st h=>wpAny_pyIter_rangeiter st h
section
variable {X:Cx} {tg:Expr}
theorem v9 {pins:List (Addr×Obj)} {σ:St} {H:Hp} {s:Shared} {R:It->Hp->Prop} {E:Value->Shared->Prop} {lo hi:Int} {t u v:Tok} {tk:Nat} (I:Inv X pins σ H s) (h1: -(2 ^ 62)<=lo) (h2:lo<2 ^ 62) (h3: -(2 ^ 62)<=hi) (h4:hi<2 ^ 62)
  (q:R (FF lo (lo - hi).toNat) H):wpAny (model X.prog X.w) X.A (pyIter (.ref s.heap.objs.size)) (Ld X pins σ tg R) E { s with heap:=s.heap.push { cls:= .type "range",data:= .fields #[.int lo t, .int hi u, .int (-1) v] },toks:=tk }:=by
 refine wpAny_pyIter_range (IsRange.new ..) (PySem.W.small_down h1 h2 h3 h4) ?_
 have I1:Inv X pins σ H { s with heap:=s.heap.push { cls:= .type "range",data:= .fields #[.int lo t, .int hi u, .int (-1) v] },toks:=tk }:=I.kept fun b o e=>Heap.get?_push_of_some _ e
 refine ⟨(s.heap.push { cls:= .type "range",data:= .fields #[.int lo t, .int hi u, .int (-1) v] }).objs.size,[(s.heap.push { cls:= .type "range",data:= .fields #[.int lo t, .int hi u, .int (-1) v] }).objs.size],_,_,H,rfl,
  I1.kept (t':=tk) fun b o e=>Heap.get?_push_of_some _ e,qA _ lo (lo - hi).toNat,?_,fun b hb=>?_,q⟩
 ·have e1:lo+((0:Nat):Int)*(-1)=lo:=by simp
  have e2:(((lo - hi).toNat:Nat):Int) - ((0:Nat):Int)=Builtin.Range.rangeSize lo hi (-1):=by rw[PySem.W.rangeSize_downNat];omega
  show IsRangeIter _ _ (lo+((0:Nat):Int)*(-1)) ((((lo - hi).toNat:Nat):Int) - ((0:Nat):Int)) (-1)
  rw[e1,e2]
  exact Heap.get?_push_size _ rfl
 ·have e:b=(s.heap.push { cls:= .type "range",data:= .fields #[.int lo t, .int hi u, .int (-1) v] }).objs.size:=by simpa using hb
  subst e
  exact I1.iZ (Nat.le_refl _) (I1.bh.fresh (Nat.le_refl _))
noncomputable def Hl (ta:TA):TI:=fun σ H R=>ta σ H fun vs H1=> ∃i j:Int,vs=[.int i, .int j, .int (-1)]/\(-(2 ^ 62)<=i/\i<2 ^ 62/\ -(2 ^ 62)<=j/\j<2 ^ 62)/\R (FF i (i - j).toNat) H1
theorem v_ {a b c:Expr} {ta:TA} {p pos:Pos} (hg:Gl X "range") (hm:X.mg "range"=none) (ha:PA X [a,b,c] ta) (hs:starEach [a,b,c] X.env=[(false,eval a X.env),(false,eval b X.env),(false,eval c X.env)]:=by rfl)
  (oI:starEach [b,c] X.env=[(false,eval b X.env),(false,eval c X.env)]:=by rfl):PI X tg (.Call (.Name "range" p) [a,b,c] [] pos) (Hl ta):=by
 intro pins s σ H R I h
 refine Call_ (cJ I hg hm boot_range (PyProof.Rows.callWith_type1 (bU (ha pos pins s σ H _ I h) fun us s1 ⟨vs,H1,I1,r1,q1⟩=>?_) (by rw[hs,oI]) (by rw[oI];rfl)))
 obtain ⟨i,j,e,⟨q1,q2,q3,q4⟩,q⟩:=q1
 subst e
 cases r1 with
 | cons r rr=>
  cases rr with
  | cons r' rr=>
   cases rr with
   | cons U6 rr=>
    cases rr
    obtain ⟨t,rfl⟩:=r
    obtain ⟨t',rfl⟩:=r'
    obtain ⟨YK,rfl⟩:=U6
    exact call_range_3 (by decide) (v9 I1 q1 q2 q3 q4 q) (Or.inl (PyProof.noPylong_of_log2 (by decide+kernel)))
end
theorem sy {lo:Int} {n:Nat} {g:TG} {tb:TS} {D:Ends} {σ:St} {H:Hp} (Pv:Nat->St->Hp->Prop) (h0:Pv 0 σ H)
  (hs: ∀i σ H,i<n->Pv i σ H->g (.int (lo - i)) σ H fun σ2 H2=>tb { D with nx:=Pv (i+1),ct:=Pv (i+1),bk:=D.nx } σ2 H2) (hd: ∀σ H,Pv n σ H->D.nx σ H):
  ∃W:Nat->Nat->St->Hp->Prop,(∃m,W 0 m σ H)/\ ∀i m σ H,W i m σ H->
   ((FF lo n).stop i H/\D.nx σ H)\/((FF lo n).go i H/\ ∃N:St->Hp->Prop,(∀σ' H',N σ' H'-> ∃m',m'<m/\W (i+1) m' σ' H')/\ ∀x H',(FF lo n).ua i H x H'->g x σ H' fun σ2 H2=>tb { D with nx:=N,ct:=N,bk:=D.nx } σ2 H2):=by
 refine ⟨fun i m σ H=>m=n - i/\i<=n/\Pv i σ H,⟨n,by simp,Nat.zero_le _,h0⟩,?_⟩
 rintro i m σ H ⟨rfl,hi,p⟩
 by_cases cN:i<n
 ·refine .inr ⟨cN,Pv (i+1),fun σ' H' p'=>⟨n - (i+1),by omega,rfl,cN,p'⟩,fun x H' y=>?_⟩
  obtain ⟨e,y⟩:=y
  subst e y
  exact hs i σ _ cN p
 ·have e:i=n:=by omega
  subst e
  exact .inl ⟨Nat.le_refl _,hd σ H p⟩
noncomputable def yy (K:PySem.W.Frag) (a:Addr) (n:Nat):It:=
 ⟨fun i H=> ∃xs x,aT K H a xs/\xs.length=n/\xs.reverse[i]? =some x,fun i H x H'=>H'=H/\ ∀xs,aT K H a xs->xs.reverse[i]? =some x,fun i H=>i=n⟩
theorem wa {P:Program} {w:World} {K:PySem.W.Frag} {tg:Expr} (a it:Addr) (n:Nat) (hz:n<=sizeLine):Turn P w K tg (yy K a n) [it] it (fun i h=>i<=n/\h.IsRevIter it a ((n:Int) - 1 - (i:Int))) where
 mem:=by simp
 obj:=fun i h st b hb=>by
  have e:b=it:=by simpa using hb
  subst e
  obtain ⟨_,o,e,c,d⟩:=st
  exact ⟨o,e,fun v z=>by rw[d]at z;cases z⟩
 keep:=fun i h h' st k=>let ⟨q,o,e,r⟩:=st;⟨q,o,k it (by simp) o e,r⟩
 item:=by
  intro X hP hw hK hc i pins s σ H E I hf st hg
  subst hP hw hK
  obtain ⟨xs,x,hq,hl,hx⟩:=hg
  obtain ⟨ay,rv,p,JQ⟩:=I.list hq
  have nL:=rv.length
  have hi:i<n:=by have:=(List.getElem?_eq_some_iff.mp hx).1;rw[List.length_reverse]at this;omega
  obtain ⟨f0,f1,f2,f3,f4,f5⟩:=hf it (by simp)
  obtain ⟨_,st⟩:=st
  have e:(n:Int) - 1 - (i:Int)=((n - 1 - i:Nat):Int):=by omega
  rw[e]at st
  rw[List.getElem?_reverse (by omega),hl]at hx
  obtain ⟨u,hu,ru⟩:=rv.get hx
  refine wpAny_pyNext_rev_item (items:=ay.toArray) (x:=u) st p.isList (by simpa using hu) fun h' iV sb=>?_
  have I1:Inv X pins σ H { s with heap:=h' }:=I.turned (t':=s.toks) (fun b o hb e=>(sb.2 b hb).trans e) f0 f1 f3 f4 f5
  obtain ⟨o,e1,cc,d⟩:=id iV
  refine ⟨u,rfl,kP (s:={ s with heap:=h' }) e1 cc d (by decide) ⟨x,H,I1,ru,⟨rfl,fun ys hy=>?_⟩,⟨hi,?_⟩,fun b hb=>(hf b hb).1⟩⟩
  ·rw[I.kN hy hq,List.getElem?_reverse (by omega),hl];exact hx
  ·have e2:(n:Int) - 1 - ((i+1:Nat):Int)=((n - 1 - i:Nat):Int) - 1:=by omega
   rw[e2]
   exact iV
 done:=by
  intro X hP hw hK hc i pins s σ H E I hf st hg
  subst hP hw hK
  obtain ⟨f0,f1,f2,f3,f4,f5⟩:=hf it (by simp)
  obtain ⟨hi,st⟩:=st
  have x8:i=n:=hg
  have e:(n:Int) - 1 - (i:Int)= -1:=by omega
  rw[e]at st
  exact wpAny_pyNext_rev_end (I.ok.hd hc) st fun h' eb=>⟨rfl,I.turned (t':=s.toks) (fun b o hb e=>eb b o hb e) f0 f1 f3 f4 f5⟩
 self:=fun _ _ _ _ _ st h=>wpAny_pyIter_revIter st.2 h
section
variable {X:Cx} {tg:Expr}
noncomputable def Hm (K:PySem.W.Frag) (ta:TA):TI:=fun σ H R=>ta σ H fun vs H1=> ∃a xs,vs=[.ref a]/\aT K H1 a xs/\R (yy K a xs.length) H1
theorem A2 (K:PySem.W.Frag) (hK:X.K=K) {a:Expr} {ta:TA} {p pos:Pos} (hg:Gl X "reversed") (hm:X.mg "reversed"=none) (ha:PA X [a] ta) (hs:starEach [a] X.env=[(false,eval a X.env)]:=by rfl):PI X tg (.Call (.Name "reversed" p) [a] [] pos) (Hm K ta):=by
 subst hK
 intro pins s σ H R I h
 refine Call_ (cJ I hg hm boot_reversed (PyProof.Rows.callWith_type1 (bU (ha pos pins s σ H _ I h) fun us s1 ⟨vs,H1,I1,r1,q1⟩=>?_) hs rfl))
 obtain ⟨b,xs,rfl,hq,q⟩:=q1
 obtain ⟨u,rfl,ru⟩:=vals1 r1
 cases (show u=Value.ref b from ru)
 obtain ⟨ay,rv,pl,hz⟩:=I1.list hq
 have hl:=rv.length
 have hsz:ay.toArray.size=xs.length:=by rw[List.size_toArray];omega
 refine call_reversed_list pl.isList ?_
 rw[hsz]
 have hit:(s1.heap.push (revObj b ((xs.length:Int) - 1))).IsRevIter s1.heap.objs.size b ((xs.length:Int) - 1):=⟨_,Heap.get?_push_size _ rfl,rfl,rfl⟩
 refine wpAny_pyIter_revIter hit ?_
 refine ⟨s1.heap.objs.size,[s1.heap.objs.size],_,_,H1,rfl,I1.kept (t':=s1.toks) fun b o e=>Heap.get?_push_of_some _ e,wa b _ xs.length hz,⟨Nat.zero_le _,?_⟩,fun b hb=>?_,q⟩
 ·have e:(xs.length:Int) - 1 - ((0:Nat):Int)=(xs.length:Int) - 1:=by simp
  rw[e]
  exact hit
 ·have e:b=s1.heap.objs.size:=by simpa using hb
  subst e
  exact I1.iZ (Nat.le_refl _) (I1.bh.fresh (Nat.le_refl _))
end
theorem yA {K:PySem.W.Frag} {a:Addr} {xs:List V} {g:TG} {tb:TS} {D:Ends} {σ:St} {H:Hp} (Pv:Nat->St->Hp->Prop) (h0:Pv 0 σ H) (hl: ∀i σ H,i<=xs.length->Pv i σ H->aT K H a xs)
  (hs: ∀i x σ H,xs.reverse[i]? =some x->Pv i σ H->g x σ H fun σ2 H2=>tb { D with nx:=Pv (i+1),ct:=Pv (i+1),bk:=D.nx } σ2 H2) (hd: ∀σ H,Pv xs.length σ H->D.nx σ H):
  ∃W:Nat->Nat->St->Hp->Prop,(∃m,W 0 m σ H)/\ ∀i m σ H,W i m σ H->
   ((yy K a xs.length).stop i H/\D.nx σ H)\/((yy K a xs.length).go i H/\ ∃N:St->Hp->Prop,(∀σ' H',N σ' H'-> ∃m',m'<m/\W (i+1) m' σ' H')/\ ∀x H',(yy K a xs.length).ua i H x H'->g x σ H' fun σ2 H2=>tb { D with nx:=N,ct:=N,bk:=D.nx } σ2 H2):=by
 refine ⟨fun i m σ H=>m=xs.length - i/\i<=xs.length/\Pv i σ H,⟨xs.length,by simp,Nat.zero_le _,h0⟩,?_⟩
 rintro i m σ H ⟨rfl,hi,p⟩
 have q:=hl i σ H hi p
 by_cases cN:i<xs.length
 ·refine .inr ⟨⟨xs,xs.reverse[i]'(by rw[List.length_reverse];exact cN),q,rfl,List.getElem?_eq_getElem _⟩,Pv (i+1),fun σ' H' p'=>⟨xs.length - (i+1),by omega,rfl,cN,p'⟩,fun x H' y=>?_⟩
  obtain ⟨e,y⟩:=y
  subst e
  exact hs i x σ _ (y xs q) p
 ·have e:i=xs.length:=by omega
  subst e
  exact .inl ⟨rfl,hd σ H p⟩
end L2
namespace L2
open PySem PySem.Spec PyProof.Rows PySem.MeetsSeq PySem.SeqAt
section
variable {X:Cx}
noncomputable def A3 (K:PySem.W.Frag):V->List V->Hp->VK->Prop:=fun x vs H Q=> ∃(p:Addr) (xs:List V) (v:V) (ds:List PyData) (d:PyData) (j:Nat),x= .ref p/\vs=[v]/\H p=some (.lst xs)/\fz K H xs ds/\mI K H v d/\(PyData.canLayAll0 ds=true/\d.canLay0=true)/\d.depth<=60/\
 (∃e,ds[j]? =some e/\PyData.eqv e d=true)/\(∀m e,m<j->ds[m]? =some e->PyData.eqv e d=false)/\Q (.int (j:Nat)) H
theorem wb {k:Nat} (K:PySem.W.Frag) (h:X.K=K) (hr:fj k X.A):vz X "list.index" (A3 K):=by
 subst h
 intro pins s σ H x vs v us Q I rx rv h
 obtain ⟨p,xs,y,ds,d,j,rfl,rfl,hH,rs,rd,⟨l1,l2⟩,dp,⟨ej,SA,yj⟩,no,q⟩:=h
 cases rx
 obtain ⟨u,rfl,ru⟩:=rv.one
 obtain ⟨z,ay,n,r,hl,e⟩:=I.mP hH
 obtain ⟨as,ra⟩:=rd.reads I ru
 obtain ⟨bs,rb⟩:=rs.reads I r
 have hu:=hr.units
 have JG:sizeLine<2 ^ 62:=by decide
 have hm:min (PyData.depthAll ds) d.depth<=60:=Nat.le_trans (Nat.min_le_right _ _) dp
 have wc:ay.map (readOf s.heap)=ds:=readsAll_map ds ay bs l1 rb
 have SD: ∀m (hm:m<ay.toArray.size) (g:PyData),ds[m]? =some g->PyData.eqv (readOf s.heap ay.toArray[m]) d=PyData.eqv g d:=fun m hm g hg=>by
  rw[<-wc,List.getElem?_map]at hg
  have JR:m<ay.length:=by rw[List.size_toArray]at hm;exact hm
  rw[List.getElem?_eq_getElem JR]at hg
  have:=Option.some.inj hg
  rw[List.getElem_toArray,this]
 have hlen:ds.length=ay.length:=by rw[<-wc,List.length_map]
 have hj:j<ay.toArray.size:=by rw[List.size_toArray, <-hlen];exact (List.getElem?_eq_some_iff.mp SA).1
 have YL:j<sizeLine:=by rw[List.size_toArray, <-hl]at hj;omega
 refine call_meets F.slot_list_index ⟨_,e,rfl⟩ F.entry_list_index (F.args_list_index_2 _ _) (SeqAt.list_indexAt p ay.toArray n none #[] u (fun w=>PyData.eqv (readOf s.heap w) d) j hj (by omega) (by rw[SD j hj ej SA];exact yj) ?_) ⟨e,?_,?_⟩
 ·intro m hm cN
  have JR:m<ds.length:=by rw[hlen];rw[List.size_toArray]at hm;exact hm
  rw[SD m hm ds[m] (List.getElem?_eq_getElem JR)]
  exact no m _ cN (List.getElem?_eq_getElem JR)
 ·exact items_eqAt (by simpa using rb) ra l1 l2 (by omega)
 ·exact ⟨.int (j:Nat),H,I.tok _,⟨_,rfl⟩,q⟩
end
end L2
namespace L2
open PySem PySem.Spec PyProof.Rows
noncomputable abbrev eS (h:Heap) (z TI TO:Addr) (f0:Value) (f:Bool):Prop:=
 h.get? z=some { cls:= .type "zip",dict:=none,data:= .fields #[f0, .bool f, .bool false, .ref TI, .ref TO],slots:= #[] }
noncomputable def zS (h:Heap) (z TI TO:Addr):Prop:= ∃f0 f,eS h z TI TO f0 f/\(f0= .none\/ ∃a:Nat,f0=rawInt a)
theorem zS.keep {h h':Heap} {z TI TO:Addr} (x:zS h z TI TO) (k: ∀o,h.get? z=some o->h'.get? z=some o):zS h' z TI TO:=by
 obtain ⟨f0,f,e,g⟩:=x
 exact ⟨f0,f,k _ e,g⟩
section
variable {prog:Program} {w:World} {A:Around} {E:Value->Shared->Prop} {s:Shared}
variable {z TI TO i1 i2:Addr} {f1 f2:List Addr} {n1 n2 i:Nat} {P1 P2:Nat->Value->Prop} {S1 S2:Nat->Heap->Prop} {a b:Value}
theorem we {a:Addr} {Q:Option Obj->Shared->Prop} (h:Q (s.heap.get? a) s):wpAny (model prog w) A (loadIfAlive a) Q E s:=by
 exact fun _ _ _=>h
theorem qB {Q:Bool->Shared->Prop} {f0:Value} {f:Bool} (hz:eS s.heap z TI TO f0 f) (h0:f0= .none\/ ∃a:Nat,f0=rawInt a)
  (h: ∀b h' f',eS h' z TI TO f0 f'->h'.objs.size=s.heap.objs.size->(∀c o,c≠z->s.heap.get? c=some o->h'.get? c=some o)->Q b { s with heap:=h' }):
  wpAny (model prog w) A (Builtin.SmallTypes.ownedTupleIsFree (.ref z)) Q E s:=by
 unfold Builtin.SmallTypes.ownedTupleIsFree
 refine wpAny_bind (m:=field (.ref z) 0) (wpAny_field hz rfl (x:=f0) rfl ?_)
 rcases h0 with rfl | ⟨a,rfl⟩
 ·exact wpAny_pure (h true s.heap f hz rfl fun c o _ e=>e)
 ·show wpAny _ _ (loadIfAlive (a:Int).toNat >>= _) _ _ s
  refine wpAny_bind (we ?_)
  cases hg:s.heap.get? (a:Int).toNat with
  | none=>exact wpAny_pure (h true s.heap f hz rfl fun c o _ e=>e)
  | some o=>
   show wpAny _ _ (field (.ref z) 1 >>= _) _ _ s
   refine wpAny_bind (wpAny_field hz rfl (x:= .bool f) rfl ?_)
   cases f with
   | true=>exact wpAny_pure (h false s.heap true hz rfl fun c o _ e=>e)
   | false=>
    show wpAny _ _ (setField (.ref z) 1 (.bool true) >>= fun _=>pure false) _ _ s
    refine wpAny_bind (wpAny_setField_rec hz (by simp) fun k1 qt jF=>?_)
    exact wpAny_pure (h false k1 true qt jF.1 fun c o hc e=>jF.extBut _ _ hc e)
theorem wg {Q:Value->Shared->Prop} (D1:Draws prog w A i1 f1 n1 P1 S1) (D2:Draws prog w A i2 f2 n2 P2 S2) (Z:ZA z TI TO i1 i2 f1 f2)
  (hz:zS s.heap z TI TO) (rF:IsPair s.heap TI (.ref i1) (.ref i2)) (zP:IsPair s.heap TO a b) (h1:S1 i s.heap) (h2:S2 i s.heap) (l1:i<n1) (l2:i<n2)
  (hQ: ∀x y h' tk,P1 i x->P2 i y->zS h' z TI TO->(∃a b,IsPair h' TO a b)->S1 (i+1) h'->S2 (i+1) h'->IsPair h' s.heap.objs.size x y->
   (∀c o,c≠z->c≠TO->c≠i1->c≠i2->s.heap.get? c=some o->h'.get? c=some o)->Q (.ref s.heap.objs.size) { s with heap:=h',toks:=tk }):
  wpAny (model prog w) A (Builtin.«zip.__next__» ⟨[.ref z],[]⟩) (fun fin s'=> ∃v,fin= .done (.ret v)/\Q v s') E s:=by
 obtain ⟨hp,g,d,L6,os⟩:=s
 obtain ⟨f0,f,hz,h0⟩:=hz
 have i1z:=nm Z.m1 Z.z1
 have i2z:=nm Z.m2 Z.z2
 have JI:=nm Z.m1 Z.o1
 have JJ:=nm Z.m2 Z.o2
 have UX:=nm Z.m2 Z.c1
 refine wpAny_bind (m:=field (.ref z) 2) (wpAny_field hz rfl (x:= .bool false) rfl ?_)
 refine wpAny_bind (m:=field (.ref z) 3) (wpAny_field hz rfl (x:= .ref TI) rfl ?_)
 refine wpAny_bind (m:=seqItems? (.ref TI)) (wpAny_seqItems rF rfl ?_)
 refine wpAny_bind (m:=Builtin.SmallTypes.ownedTupleIsFree (.ref z)) ?_
 refine qB hz h0 fun b0 k0 f' FG Eg uH=>?_
 replace Eg:k0.objs.size=hp.objs.size:=Eg
 replace uH: ∀c o,c≠z->hp.get? c=some o->k0.get? c=some o:=uH
 have U7:IsPair k0 TI (.ref i1) (.ref i2):=uH _ _ Z.tz rF
 have Hn:IsPair k0 TO a b:=uH _ _ Z.oz zP
 have Ho:S1 i k0:=D1.frame _ _ _ h1 fun c hc o e=>uH _ _ (nm hc Z.z1) e
 have SE:S2 i k0:=D2.frame _ _ _ h2 fun c hc o e=>uH _ _ (nm hc Z.z2) e
 cases b0 with
 | true=>
  simp only[if_true]
  refine wpAny_bind (wpAny_rule ?_);refine wpAny_bind (m:=field (.ref z) 4) (wpAny_field FG rfl (x:= .ref TO) rfl ?_)
  refine wpAny_bind (wpAny_setField_rec FG (by simp) fun k1 qt jF=>?_)
  replace qt:eS k1 z TI TO .ellipsis f':=qt
  replace jF:Heap.SameBut z k0 k1:=jF
  refine wpAny_bind ?_;simp only[List.zipIdx_cons,List.zipIdx_nil,List.forIn_cons,List.forIn_nil]
  refine wpAny_bind (wpAny_bind (wpAny_onRaise ?_));refine wpAny_bind (m:=Builtin.SmallTypes.nextOf (.ref i1)) ?_
  refine D1.item i _ _ _ l1 (D1.frame _ _ _ Ho fun c hc o e=>jF.extBut _ _ (nm hc Z.z1) e) fun x k2 Sv px jE iK=>wpAny_pure ?_
  replace iK:Heap.SameBut i1 k1 k2:=iK
  have to2:IsPair k2 TO a b:=iK.extBut _ _ (Ne.symm JI) (jF.extBut _ _ Z.oz Hn)
  refine wpAny_bind (m:=seqItems? (.ref TO)) (wpAny_seqItems to2 rfl ?_)
  refine wpAny_bind (wpAny_updateSeq_pair to2 fun k3 to3 mS=>?_)
  replace to3:IsPair k3 TO x b:=to3
  replace mS:Heap.SameBut TO k2 k3:=mS
  refine wpAny_bind (wpAny_letGo (wpAny_pure ?_));refine wpAny_bind (wpAny_bind (wpAny_onRaise ?_))
  refine wpAny_bind (m:=Builtin.SmallTypes.nextOf (.ref i2)) ?_
  refine D2.item i _ _ _ l2 (D2.frame _ _ _ SE fun c hc o e=>mS.extBut _ _ (nm hc Z.o2) (iK.extBut _ _ (nm hc Z.c1) (jF.extBut _ _ (nm hc Z.z2) e))) fun y k4 Hc py Hd lC=>wpAny_pure ?_
  replace lC:Heap.SameBut i2 k3 k4:=lC
  have He:IsPair k4 TO x b:=lC.extBut _ _ (Ne.symm JJ) to3
  refine wpAny_bind (m:=seqItems? (.ref TO)) (wpAny_seqItems He rfl ?_)
  refine wpAny_bind (wpAny_updateSeq_pair He fun k5 AU sj=>?_)
  replace AU:IsPair k5 TO x y:=AU
  replace sj:Heap.SameBut TO k4 k5:=sj
  refine wpAny_bind (wpAny_letGo (wpAny_pure (wpAny_pure ?_)));refine wpAny_bind (m:=seqItems? (.ref TO)) (wpAny_seqItems AU rfl ?_)
  refine wpAny_bind (wpAny_newTuple ?_)
  have sz:k5.objs.size=hp.objs.size:=by rw[sj.1,lC.1,mS.1,iK.1,jF.1,Eg]
  have z5:eS k5 z TI TO .ellipsis f':=sj.extBut _ _ (Ne.symm Z.oz) (lC.extBut _ _ (Ne.symm i2z) (mS.extBut _ _ (Ne.symm Z.oz) (iK.extBut _ _ (Ne.symm i1z) qt)))
  have kp: ∀c o,c≠z->c≠TO->c≠i1->c≠i2->hp.get? c=some o->k5.get? c=some o:=fun c o c1 c2 c3 c4 e=>sj.extBut _ _ c2 (lC.extBut _ _ c4 (mS.extBut _ _ c2 (iK.extBut _ _ c3 (jF.extBut _ _ c1 (uH _ _ c1 e)))))
  have AV:S1 (i+1) k5:=D1.frame _ _ _ jE fun c hc o e=>sj.extBut _ _ (nm hc Z.o1) (lC.extBut _ _ (nm hc Z.c2) (mS.extBut _ _ (nm hc Z.o1) e))
  have L7:S2 (i+1) k5:=D2.frame _ _ _ Hd fun c hc o e=>sj.extBut _ _ (nm hc Z.o2) e
  have zl:z<k5.objs.size:=Heap.lt_size z5
  refine wpAny_bind (m:=Builtin.SmallTypes.ownedTupleHandOut (.ref z) (.ref k5.objs.size)) ?_
  have z6:eS (k5.push { cls:= .type "tuple",data:= .seq #[x,y] }) z TI TO .ellipsis f':=Heap.get?_push_of_some _ z5
  (unfold Builtin.SmallTypes.ownedTupleHandOut;refine wpAny_bind (wpAny_setField_rec z6 (by simp) fun k7 z7 s7=>?_))
  replace z7:eS k7 z TI TO (rawInt k5.objs.size) f':=z7
  refine wpAny_setField_rec z7 (by simp) fun k8 z8 s8=>?_
  replace z8:eS k8 z TI TO (rawInt k5.objs.size) false:=z8
  have up: ∀c o,c≠z->k5.get? c=some o->k8.get? c=some o:=fun c o c1 e=>s8.extBut _ _ c1 (s7.extBut _ _ c1 (Heap.get?_push_of_some _ e))
  have t8:IsPair k8 k5.objs.size x y:=s8.extBut _ _ (Nat.ne_of_gt zl) (s7.extBut _ _ (Nat.ne_of_gt zl) (Heap.get?_push_size _ rfl))
  rw[sz]at t8
  refine wpAny_pure ⟨_,rfl,?_⟩
  show Q (.ref k5.objs.size) _
  rw[sz]
  exact hQ x y k8 Hc px py ⟨_,_,z8, .inr ⟨_,rfl⟩⟩ ⟨_,_,up _ _ Z.oz AU⟩ (D1.frame _ _ _ AV fun c hc o e=>up c o (nm hc Z.z1) e) (D2.frame _ _ _ L7 fun c hc o e=>up c o (nm hc Z.z2) e) t8 fun c o c1 c2 c3 c4 e=>up c o c1 (kp c o c1 c2 c3 c4 e)
 | false=>
  simp only[Bool.false_eq_true,if_false]
  refine wpAny_bind ?_
  rw[<-Array.forIn_toList]
  simp only[List.forIn_cons,List.forIn_nil]
  refine wpAny_bind (wpAny_bind (wpAny_holding ?_));refine wpAny_bind (m:=Builtin.SmallTypes.nextOf (.ref i1)) ?_
  refine D1.item i _ _ _ l1 Ho fun x k2 Sv px jE iK=>wpAny_pure (wpAny_pure ?_)
  replace iK:Heap.SameBut i1 k0 k2:=iK
  refine wpAny_bind (wpAny_bind (wpAny_holding ?_));refine wpAny_bind (m:=Builtin.SmallTypes.nextOf (.ref i2)) ?_
  refine D2.item i _ _ _ l2 (D2.frame _ _ _ SE fun c hc o e=>iK.extBut _ _ (nm hc Z.c1) e) fun y k4 Hc py Hd lC=>wpAny_pure (wpAny_pure (wpAny_pure ?_))
  replace lC:Heap.SameBut i2 k2 k4:=lC
  show wpAny _ _ (newTuple [x,y] >>= _) _ _ _
  refine wpAny_bind (wpAny_newTuple ?_)
  have sz:k4.objs.size=hp.objs.size:=by rw[lC.1,iK.1,Eg]
  refine wpAny_pure ⟨_,rfl,?_⟩
  show Q (.ref k4.objs.size) _
  have up: ∀c o,k4.get? c=some o->(k4.push { cls:= .type "tuple",data:= .seq #[x,y] }).get? c=some o:=fun c o e=>Heap.get?_push_of_some _ e
  have z4:eS k4 z TI TO f0 f':=lC.extBut _ _ (Ne.symm i2z) (iK.extBut _ _ (Ne.symm i1z) FG)
  have o4:IsPair k4 TO a b:=lC.extBut _ _ (Ne.symm JJ) (iK.extBut _ _ (Ne.symm JI) Hn)
  have t8:IsPair (k4.push { cls:= .type "tuple",data:= .seq #[x,y] }) k4.objs.size x y:=Heap.get?_push_size _ rfl
  rw[sz]at t8
  have e0:Value.ref k4.objs.size=Value.ref hp.objs.size:=by rw[sz]
  rw[e0]
  exact hQ x y _ Hc px py ⟨_,_,up _ _ z4,h0⟩ ⟨_,_,up _ _ o4⟩ (D1.frame _ _ _ jE fun c hc o e=>up c o (lC.extBut _ _ (nm hc Z.c2) e)) (D2.frame _ _ _ Hd fun c hc o e=>up c o e) t8 fun c o c1 c2 c3 c4 e=>up c o (lC.extBut _ _ c4 (iK.extBut _ _ c3 (uH _ _ c1 e)))
theorem yB {Q:Fin->Shared->Prop} (D1:Draws prog w A i1 f1 n1 P1 S1) (Z:ZA z TI TO i1 i2 f1 f2)
  (hz:zS s.heap z TI TO) (rF:IsPair s.heap TI (.ref i1) (.ref i2)) (h1:S1 n1 s.heap)
  (hE: ∀h' e,(∀c o,c≠z->c≠TO->c≠i1->c≠i2->s.heap.get? c=some o->h'.get? c=some o)->(∃o,h'.get? e=some o/\o.cls= .type "StopIteration")->E (.ref e) { s with heap:=h' }):
  wpAny (model prog w) A (Builtin.«zip.__next__» ⟨[.ref z],[]⟩) Q E s:=by
 obtain ⟨hp,g,d,L6,os⟩:=s
 obtain ⟨f0,f,hz,h0⟩:=hz
 have i1z:=nm Z.m1 Z.z1
 refine wpAny_bind (m:=field (.ref z) 2) (wpAny_field hz rfl (x:= .bool false) rfl ?_)
 refine wpAny_bind (m:=field (.ref z) 3) (wpAny_field hz rfl (x:= .ref TI) rfl ?_)
 refine wpAny_bind (m:=seqItems? (.ref TI)) (wpAny_seqItems rF rfl ?_)
 refine wpAny_bind (m:=Builtin.SmallTypes.ownedTupleIsFree (.ref z)) ?_
 refine qB hz h0 fun b0 k0 f' FG Eg uH=>?_
 replace Eg:k0.objs.size=hp.objs.size:=Eg
 replace uH: ∀c o,c≠z->hp.get? c=some o->k0.get? c=some o:=uH
 have Ho:S1 n1 k0:=D1.frame _ _ _ h1 fun c hc o e=>uH _ _ (nm hc Z.z1) e
 cases b0 with
 | true=>
  simp only[if_true]
  refine wpAny_bind (wpAny_rule ?_);refine wpAny_bind (m:=field (.ref z) 4) (wpAny_field FG rfl (x:= .ref TO) rfl ?_)
  refine wpAny_bind (wpAny_setField_rec FG (by simp) fun k1 qt jF=>?_)
  replace qt:eS k1 z TI TO .ellipsis f':=qt
  replace jF:Heap.SameBut z k0 k1:=jF
  refine wpAny_bind ?_;simp only[List.zipIdx_cons,List.zipIdx_nil,List.forIn_cons,List.forIn_nil]
  refine wpAny_bind (wpAny_bind (wpAny_onRaise ?_));refine wpAny_bind (m:=Builtin.SmallTypes.nextOf (.ref i1)) ?_
  refine D1.done _ _ _ (D1.frame _ _ _ Ho fun c hc o e=>jF.extBut _ _ (nm hc Z.z1) e) fun k2 e iK he=>?_
  obtain ⟨oe,vT,Hf⟩:=he
  have z2:eS k2 z TI TO .ellipsis f':=iK _ _ (Ne.symm i1z) qt
  have ez:e≠z:=fun x=>by subst x;rw[z2]at vT;cases vT;simp at Hf
  refine wpAny_setField_rec z2 (by simp) fun k3 _ mS=>hE k3 e (fun c o c1 _ c3 _ x=>mS.extBut _ _ c1 (iK _ _ c3 (jF.extBut _ _ c1 (uH _ _ c1 x)))) ⟨oe,mS.extBut _ _ ez vT,Hf⟩
 | false=>
  simp only[Bool.false_eq_true,if_false]
  refine wpAny_bind ?_
  rw[<-Array.forIn_toList]
  simp only[List.forIn_cons,List.forIn_nil]
  refine wpAny_bind (wpAny_bind (wpAny_holding ?_));refine wpAny_bind (m:=Builtin.SmallTypes.nextOf (.ref i1)) ?_
  refine D1.done _ _ _ Ho fun k2 e iK he=>hE k2 e (fun c o c1 _ c3 _ x=>iK _ _ c3 (uH _ _ c1 x)) he
theorem qC {Q:Option Value->Shared->Prop} (D1:Draws prog w A.in1 i1 f1 n1 P1 S1) (D2:Draws prog w A.in1 i2 f2 n2 P2 S2) (Z:ZA z TI TO i1 i2 f1 f2)
  (hz:zS s.heap z TI TO) (rF:IsPair s.heap TI (.ref i1) (.ref i2)) (zP:IsPair s.heap TO a b) (h1:S1 i s.heap) (h2:S2 i s.heap) (l1:i<n1) (l2:i<n2)
  (hQ: ∀x y h' tk,P1 i x->P2 i y->zS h' z TI TO->(∃a b,IsPair h' TO a b)->S1 (i+1) h'->S2 (i+1) h'->IsPair h' s.heap.objs.size x y->
   (∀c o,c≠z->c≠TO->c≠i1->c≠i2->s.heap.get? c=some o->h'.get? c=some o)->Q (some (.ref s.heap.objs.size)) { s with heap:=h',toks:=tk }):
  wpAny (model prog w) A (pyNext (.ref z)) Q E s:=by
 have hT:s.TypeIs (.ref z) "zip":=by
  obtain ⟨f0,f,e,_⟩:=hz
  exact ⟨_,e,rfl⟩
 unfold pyNext
 exact wpAny_bind (wpAny_attempt (wpAny_callSpecial?_slot (name:=Str.ofString "__next__") hT F.slot_zip_next (wpAny_call_entry F.slot_zip_next hT F.entry_zip_next
   (wg D1 D2 Z hz rF zP h1 h2 l1 l2 fun x y h' tk p1 p2 a1 a2 a3 a4 a5 a6=>wpAny_pure (hQ x y h' tk p1 p2 a1 a2 a3 a4 a5 a6)) (F.args_zip_next_1 _))))
theorem sG {Q:Option Value->Shared->Prop} (D1:Draws prog w A.in1 i1 f1 n1 P1 S1) (Z:ZA z TI TO i1 i2 f1 f2)
  (hz:zS s.heap z TI TO) (rF:IsPair s.heap TI (.ref i1) (.ref i2)) (h1:S1 n1 s.heap)
  (hQ: ∀h',(∀c o,c≠z->c≠TO->c≠i1->c≠i2->s.heap.get? c=some o->h'.get? c=some o)->Q none { s with heap:=h' }):wpAny (model prog w) A (pyNext (.ref z)) Q E s:=by
 have hT:s.TypeIs (.ref z) "zip":=by
  obtain ⟨f0,f,e,_⟩:=hz
  exact ⟨_,e,rfl⟩
 unfold pyNext
 refine wpAny_bind (wpAny_attempt (wpAny_callSpecial?_slot (name:=Str.ofString "__next__") hT F.slot_zip_next (wpAny_call_entry F.slot_zip_next hT F.entry_zip_next (yB D1 Z hz rF h1 fun h' e hk he=>?_) (F.args_zip_next_1 _))))
 obtain ⟨o,ho,hc⟩:=he
 refine wpAny_bind (wpAny_isInstance (T:="StopIteration") (b:=true) ⟨o,ho,hc⟩ isSubtype_stop (wpAny_pure (hQ _ hk)))
end
theorem wj {P:Program} {w:World} {K:PySem.W.Frag} {nx:Str} {pos:Pos} {a1 a2 z TI TO i1 i2:Addr} {Sq1 Sq2:Hp->List V->Prop} {I1 I2:Nat->Heap->Prop}
  (W1:ZS P w K a1 i1 Sq1 I1) (W2:ZS P w K a2 i2 Sq2 I2) (Z:ZA z TI TO i1 i2 [i1,a1] [i2,a2]) (n1:a1≠i1) (n2:a2≠i2):
  Turn P w K (.Name nx pos) (B4 Sq1 Sq2) [z,TI,TO,i1,i2] z (fun i h=>zS h z TI TO/\IsPair h TI (.ref i1) (.ref i2)/\(∃a b,IsPair h TO a b)/\I1 i h/\I2 i h) where
 mem:=by simp
 obj:=fun i h st b hb=>by
  obtain ⟨⟨f0,f,q1,_⟩,q2,⟨a,b',q3⟩,q4,q5⟩:=st
  simp only[List.mem_cons,List.not_mem_nil,or_false]at hb
  rcases hb with g | g | g | g | g<;>rw[g]
  ·exact ⟨_,q1,fun v z=>by cases z⟩
  ·exact ⟨_,q2,fun v z=>by cases z⟩
  ·exact ⟨_,q3,fun v z=>by cases z⟩
  ·exact W1.obj i h q4
  ·exact W2.obj i h q5
 keep:=fun i h h' st kp=>by
  obtain ⟨q1,q2,⟨a,b',q3⟩,q4,q5⟩:=st
  exact ⟨q1.keep (kp z (by simp)),kp TI (by simp) _ q2,⟨a,b',kp TO (by simp) _ q3⟩,W1.keep _ _ _ q4 fun o e=>kp i1 (by simp) o e,W2.keep _ _ _ q5 fun o e=>kp i2 (by simp) o e⟩
 item:=by
  intro X hP hw hK hc i pins s σ H E I hf st hg
  obtain ⟨q1,q2,⟨a,b',q3⟩,q4,q5⟩:=st
  obtain ⟨xs,ys,x,y,hx,hy,gx,gy⟩:=hg
  obtain ⟨xi,SX,rx,DX,ux,vx⟩:=W1.draws X hP hw hK hc pins s σ H I xs hx n1
  obtain ⟨yi,SY,ry,DY,uy,vy⟩:=W2.draws X hP hw hK hc pins s σ H I ys hy n2
  obtain ⟨u0,hu,ru⟩:=rx.get gx
  obtain ⟨w0,B6,L_⟩:=ry.get gy
  have L8:=W1.inj X hK pins s σ H I
  have L9:=W2.inj X hK pins s σ H I
  subst hP hw hK
  refine qC DX DY Z q1 q2 q3 (ux i q4) (uy i q5) (List.getElem?_eq_some_iff.mp hu).1 (List.getElem?_eq_some_iff.mp B6).1 fun x2 y2 h' tk p1 p2 e1 e2 e3 e4 e5 e7=>⟨_,rfl,?_⟩
  have ex:x2=u0:=Option.some.inj (p1.symm.trans hu)
  have ey:y2=w0:=Option.some.inj (p2.symm.trans B6)
  subst ex
  subst ey
  have lt: ∀{c o},s.heap.get? c=some o->s.heap.objs.size≠c:=fun e=>Nat.ne_of_gt (Heap.lt_size e)
  obtain ⟨o1,g1⟩:=DX.live _ _ (ux i q4)
  obtain ⟨o2,g2⟩:=DY.live _ _ (uy i q5)
  have xr:s.heap.objs.size∉[z,TI,TO,i1,i2]:=by
   obtain ⟨f0,f,qz,_⟩:=q1
   simp only[List.mem_cons,List.not_mem_nil,or_false,not_or]
   exact ⟨lt qz,lt q2,lt q3,lt g1,lt g2⟩
  have kk: ∀b o,b∉[z,TI,TO,i1,i2]->s.heap.get? b=some o->h'.get? b=some o:=fun b o hb e=>by
   simp only[List.mem_cons,List.not_mem_nil,or_false,not_or]at hb
   exact e7 b o hb.1 hb.2.2.1 hb.2.2.2.1 hb.2.2.2.2 e
  have jf:h'.IsTuple s.heap.objs.size #[x2,y2]:=⟨_,e5,rfl,_,rfl⟩
  refine wpAny_pure ⟨.ref s.heap.objs.size,upd H s.heap.objs.size (.tup [x,y]),?_,rfl,⟨s.heap.objs.size,x,y,fun zs D_=>by rw[L8 zs xs D_ hx];exact gx,fun zs D_=>by rw[L9 zs ys D_ hy];exact gy,rfl,I.bh.fresh (Nat.le_refl _),rfl⟩,
   ⟨e1,e7 _ _ Z.tz Z.tt Z.t1 Z.t2 q2,e2,vx _ _ e3,vy _ _ e4⟩,fun b hb=>?_⟩
  ·refine I.gN (t':=tk) (h':=h') kk hf (Nat.le_refl _) ?_
   exact ⟨by show 2<=sizeLine;decide,[x2,y2], .cons ru (.cons L_ .nil),jf⟩
  ·rw[aq (fun q:b=s.heap.objs.size=>xr (q▸hb))];exact (hf b hb).1
 done:=by
  intro X hP hw hK hc i pins s σ H E I hf st hg
  obtain ⟨q1,q2,⟨a,b',q3⟩,q4,q5⟩:=st
  obtain ⟨xs,hx,⟨ys,hy⟩,el⟩:=hg
  obtain ⟨xi,SX,rx,DX,ux,vx⟩:=W1.draws X hP hw hK hc pins s σ H I xs hx n1
  have hl:=rx.length
  subst hP hw hK
  have e0:i=xi.length:=by omega
  subst e0
  refine sG DX Z q1 q2 (ux _ q4) fun h' hk=>⟨rfl,I.je (t':=s.toks) (ch:=[z,TI,TO,i1,i2]) (fun b o hb e=>?_) hf⟩
  simp only[List.mem_cons,List.not_mem_nil,or_false,not_or]at hb
  exact hk b o hb.1 hb.2.2.1 hb.2.2.2.1 hb.2.2.2.2 e
 self:=fun _ _ s _ _ st h=>by
  obtain ⟨⟨f0,f,q1,_⟩,_⟩:=st
  have hT:s.TypeIs (.ref z) "zip":=⟨_,q1,rfl⟩
  refine wpAny_pyIter_slot hT F.slot_zip_iter (wpAny_call_entry F.slot_zip_iter hT F.entry_zip_iter ?_ (F.args_zip_iter_1 _))
  show wpAny _ _ (ret (.ref z)) _ _ s
  exact wpAny_pure ⟨_,rfl,"zip",_,hT,F.slot_zip_next.lookup,h⟩
section
variable {X:Cx} {nx:Str} {pos':Pos} {a b:Expr} {ta:TA} {p pos:Pos}
theorem yC {Sq1 Sq2:Addr->Hp->List V->Prop} (hg:Gl X "zip") (hm:X.mg "zip"=none) (ha:PA X [a,b] ta) (hs:starEach [a,b] X.env=[(false,eval a X.env),(false,eval b X.env)]) (oI:starEach [b] X.env=[(false,eval b X.env)])
  (hk: ∀(pins:List (Addr×Obj)) (s:Shared) (σ:St) (H:Hp),Inv X pins σ H s-> ∀u v xs ys,Sq1 u H xs->Sq2 v H ys->u<s.heap.objs.size/\v<s.heap.objs.size/\ ∃(c d:String) (P1 P2:Heap->Prop) (I1 I2:Nat->Heap->Prop),Sw c d P1 P2 u v/\P1 s.heap/\P2 s.heap/\
   ZS X.prog X.w X.K u s.heap.objs.size (Sq1 u) I1/\ZS X.prog X.w X.K v (s.heap.objs.size+1) (Sq2 v) I2/\(∀h':Heap,h'.get? s.heap.objs.size=some { cls:= .type c,data:= .fields #[.ref u, .int 0 0] }->I1 0 h')/\ ∀h':Heap,h'.get? (s.heap.objs.size+1)=some { cls:= .type d,data:= .fields #[.ref v, .int 0 0] }->I2 0 h'):
  PI X (.Name nx pos') (.Call (.Name "zip" p) [a,b] [] pos) (Hh Sq1 Sq2 ta):=by
 intro pins s σ H R I h
 refine Call_ (cJ I hg hm boot_zip (PyProof.Rows.callWith_type1 (bU (ha pos pins s σ H _ I h) fun us s1 ⟨vs,H1,I1,r1,q1⟩=>?_) (by rw[hs,oI]) (by rw[oI];rfl)))
 obtain ⟨u,v,rfl,⟨xs,hx⟩,⟨ys,hy⟩,q⟩:=q1
 obtain ⟨u',v',rfl,ru,rv⟩:=vals2 r1
 cases ru
 cases rv
 obtain ⟨lu,lv,c,d,P1,P2,J1,J2,M,p1,p2,W1,W2,j1,j2⟩:=hk pins s1 σ H1 I1 u v xs ys hx hy
 refine M X.prog X.w X.A X.xe s1 _ p1 p2 fun h' z1 z2 z3 z4 z5 kk=>wpAny_pyIter_zip z1 ?_
 refine ⟨s1.heap.objs.size+4,[s1.heap.objs.size+4,s1.heap.objs.size+2,s1.heap.objs.size+3,s1.heap.objs.size,s1.heap.objs.size+1],_,_,H1,rfl,I1.kept (t':=s1.toks) kk,wj W1 W2 (D7 lu lv) (Nat.ne_of_lt lu) (Nat.ne_of_lt (Nat.lt_succ_of_lt lv)),⟨⟨_,_,z1, .inl rfl⟩,z2,⟨_,_,z3⟩,j1 h' z4,j2 h' z5⟩,fun e he=>?_,q⟩
 have Hj:s1.heap.objs.size<=e:=by
  simp only[List.mem_cons,List.not_mem_nil,or_false]at he
  rcases he with g | g | g | g | g<;>rw[g]<;>omega
 exact I1.iZ Hj (I1.bh.fresh Hj)
theorem wm (K:PySem.W.Frag) (hK:X.K=K) (hg:Gl X "zip") (hm:X.mg "zip"=none) (ha:PA X [a,b] ta) (hs:starEach [a,b] X.env=[(false,eval a X.env),(false,eval b X.env)]:=by rfl) (oI:starEach [b] X.env=[(false,eval b X.env)]:=by rfl):PI X (.Name nx pos') (.Call (.Name "zip" p) [a,b] [] pos) (Hh (vV K) (vV K) ta):=by
 subst hK
 refine yC hg hm ha hs oI fun pins s σ H I u v xs ys hx hy=>?_
 obtain ⟨xi,_,px,_⟩:=I.tuple hx
 obtain ⟨yi,_,py,_⟩:=I.tuple hy
 obtain ⟨ox,ex,_⟩:=id px
 obtain ⟨oy,ey,_⟩:=id py
 exact ⟨Heap.lt_size ex,Heap.lt_size ey,_,_,(fun h=>h.IsTuple u xi.toArray),(fun h=>h.IsTuple v yi.toArray),_,_,D6 (qu u v xi.toArray yi.toArray),px,py,so u _,so v _,fun h' e=>⟨_,e,rfl,rfl⟩,fun h' e=>⟨_,e,rfl,rfl⟩⟩
end
end L2
namespace L2
open PySem PySem.Spec PyProof.Rows HT
section
variable {prog:Program} {w:World} {A:Around} {E:Value->Shared->Prop} {s:Shared}
end
section
variable {X:Cx}
end
end L2
set_option maxHeartbeats 4000000
namespace My
open PySem PySem.Spec PyProof.Rows L2
noncomputable def bb:List Nat:=[97,98,99,100,101,102,103,104,105,106,107,108,109,110,111,112,113,114,115,116,117,118,119,120,121,122]
noncomputable def jS:List Nat:=[65,66,67,68,69,70,71,72,73,74,75,76,77,78,79,80,81,82,83,84,85,86,87,88,89,90]
noncomputable def Lt (c:Nat):Prop:=c∈bb\/c∈jS
noncomputable instance (c:Nat):Decidable (Lt c):=by unfold Lt;infer_instance
noncomputable def aU (c:Nat):Nat:=if cn c=true then PyProof.Rows.up1 c else PyProof.Rows.lo1 c
theorem o8: ∀c∈bb++jS,c<128/\aU c∈bb++jS/\aU (aU c)=c/\aU c≠c:=by decide+kernel
theorem Lt.mem {c:Nat} (h:Lt c):c∈bb++jS:=List.mem_append.mpr h
theorem Lt.lt {c:Nat} (h:Lt c):c<128:=(o8 c h.mem).1
theorem Lt.aU {c:Nat} (h:Lt c):Lt (aU c):=List.mem_append.mp (o8 c h.mem).2.1
theorem bo {c:Nat} (h:Lt c):aU (aU c)=c:=(o8 c h.mem).2.2.1
theorem Eh {c:Nat} (h:Lt c):aU c≠c:=(o8 c h.mem).2.2.2
theorem A4 {a b:Nat} (ha:Lt a) (hb:Lt b) (e:My.aU a=My.aU b):a=b:=by rw[<-bo ha,e,bo hb]
theorem qD: ∀c∈bb,ny jS ((bb.idxOf c:Nat):Int)=some (aU c):=by decide+kernel
theorem wq: ∀c∈jS,ny bb ((jS.idxOf c:Nat):Int)=some (aU c):=by decide+kernel
noncomputable def qE (l:List Nat):List Nat:=(l.map aU).reverse
noncomputable def aI (b:Addr) (H H':Hp):Prop:= ∀c o,H c=some o->c≠b->H' c=some o
theorem aI.refl (b:Addr) (H:Hp):aI b H H:=fun _ _ h _=>h
theorem aI.trans {b:Addr} {H H1 H2:Hp} (x:aI b H H1) (y:aI b H1 H2):aI b H H2:=fun c o h n=>y c o (x c o h n) n
theorem aI.of {b:Addr} {H H':Hp} (x:ah H H'):aI b H H':=fun c o h _=>x c o h
theorem aI.upd (b:Addr) (H:Hp) (o:HO):aI b H (upd H b o):=fun c o h n=>by rw[aq n];exact h
theorem ah.upd {H:Hp} {p:Addr} {o:HO} (h:H p=none):ah H (L2.upd H p o):=fun c u e=>by rw[aq (ak e h)];exact e
noncomputable def bK (H:Hp) (b:Addr):Prop:= ∃x y:Int,H b=some (.lst [.int x, .int y])
theorem bK.same {H H':Hp} {b:Addr} (h:bK H b) (s:ah H H'):bK H' b:=let ⟨x,y,e⟩:=h;⟨x,y,s _ _ e⟩
structure Yd (y:List Nat):Prop where
 nd:y.Nodup
 lt: ∀c∈y,Lt c
 cl: ∀c∈y,aU c∈y
noncomputable def kc (_:PySem.W.Frag):Sp:=fun vs H Q _=> ∃c,vs=[.str (S [c])]/\c<128/\Q (.str (S [aU c])) H
theorem o9 {K:PySem.W.Frag} {vs:List V} {H:Hp} {Q:VK} {E:XK} (h:kc K vs H Q E):vs.length=1:=by obtain ⟨c,rfl,_⟩:=h;rfl
noncomputable def nM (_:PySem.W.Frag):Sp:=fun vs H Q _=> ∃c,vs=[.str (S [c])]/\Lt c/\Q (.str (S [aU c])) H
theorem sH {K:PySem.W.Frag} {vs:List V} {H:Hp} {Q:VK} {E:XK} (h:nM K vs H Q E):vs.length=1:=by obtain ⟨c,rfl,_⟩:=h;rfl
noncomputable def uI (K:PySem.W.Frag):Sp:=fun vs H Q _=> ∃(a:Addr) (ns:List Int) (k:Nat),vs=[.ref a, .int k]/\aT K H a (ns.map V.int)/\k<=1000/\ ∀b H',H b=none->bK H' b->ah H H'->Q (.ref b) H'
theorem yD {K:PySem.W.Frag} {vs:List V} {H:Hp} {Q:VK} {E:XK} (h:uI K vs H Q E):vs.length=2:=by obtain ⟨a,ns,k,rfl,_⟩:=h;rfl
noncomputable def qF (_:PySem.W.Frag):Sp:=fun vs H Q _=> ∃(b:Addr) (m:Int),vs=[.ref b, .int m]/\bK H b/\1<=m/\m<1000000/\ ∀(r:Nat) H',(r:Int)<m->bK H' b->aI b H H'->Q (.int r) H'
theorem wu {K:PySem.W.Frag} {vs:List V} {H:Hp} {Q:VK} {E:XK} (h:qF K vs H Q E):vs.length=2:=by obtain ⟨b,m,rfl,_⟩:=h;rfl
noncomputable def qG (_:PySem.W.Frag):Sp:=fun vs H Q _=> ∃(b:Addr) (jQ top:Nat),vs=[.ref b, .int jQ, .int top]/\bK H b/\1<=jQ/\jQ<=top/\top<=8/\ ∀(y:List Nat) H',Yd y->2*jQ<=y.length->y.length<=2*top->bK H' b->aI b H H'->Q (.str (S y)) H'
theorem wx {K:PySem.W.Frag} {vs:List V} {H:Hp} {Q:VK} {E:XK} (h:qG K vs H Q E):vs.length=3:=by obtain ⟨b,m,t,rfl,_⟩:=h;rfl
noncomputable def qH (_:PySem.W.Frag):Sp:=fun vs H Q _=> ∃(b:Addr) (y:List Nat) (top:Nat),vs=[.ref b, .str (S y), .int top]/\bK H b/\y≠[]/\y.length<=1000/\top<=1000/\ ∀(l:List Nat) H',(∀c∈l,c∈y)->l.length<=top->bK H' b->aI b H H'->Q (.str (S l)) H'
theorem wA {K:PySem.W.Frag} {vs:List V} {H:Hp} {Q:VK} {E:XK} (h:qH K vs H Q E):vs.length=3:=by obtain ⟨b,m,t,rfl,_⟩:=h;rfl
noncomputable def jK (K:PySem.W.Frag):Sp:=fun vs H Q _=> ∃(a:Addr) (ns:List Int),vs=[.ref a]/\aT K H a (ns.map V.int)/\ns.length<=63/\ ∀H',Q (.bl true) H'
theorem A5 {K:PySem.W.Frag} {vs:List V} {H:Hp} {Q:VK} {E:XK} (h:jK K vs H Q E):vs.length=1:=by obtain ⟨b,m,rfl,_⟩:=h;rfl
theorem uJ: ∀l:List Nat,(l.map fun c=>[c]).flatten=l
 | []=>rfl
 | c::l=>by rw[List.map_cons,List.flatten_cons,uJ l];rfl
theorem A6: ∀l:List Nat,((l.map fun c=>[c]).map List.length).sum=l.length
 | []=>rfl
 | c::l=>by
  rw[List.map_cons,List.map_cons,List.sum_cons,A6 l]
  show 1+l.length=l.length+1
  omega
theorem fB (l:List Nat):bY l=(l.map fun c=>[c]).map fun l=>V.str (S l):=by unfold bY;rw[List.map_map];rfl
theorem eT (l:List Nat) (c:Nat):bY l++[V.str (S [c])]=bY (l++[c]):=by unfold bY;rw[List.map_append];rfl
theorem take_snoc {α:Type} {l:List α} {i:Nat} {x:α} (h:l[i]? =some x):l.take i++[x]=l.take (i+1):=by rw[List.take_add_one,h];rfl
theorem uK {ns:List Int} {i:Nat} (h:i<ns.length): ∃z,(ns.map V.int)[i]? =some (V.int z):=⟨ns[i],by rw[List.getElem?_map,List.getElem?_eq_getElem h];rfl⟩
theorem jk {σ:L2.St} {H:Hp} {A B:Hp->Prop} (h:A H):DK σ H fun b H3=>if b=true then A H3 else B H3:=by
 show (if true=true then A H else B H)
 rw[if_pos rfl]
 exact h
theorem sJ (b:Bool) (z:Int): ∃y,ny [V.int 0,V.int z] (if b=true then 1 else 0)=some (V.int y):=by
 cases b
 ·exact ⟨0,rfl⟩
 ·exact ⟨z,rfl⟩
theorem eU {α:Type}: ∀{l:List α} {i:Nat} {x:α},l[i]? =some x->(x::l.eraseIdx i).Perm l
 | [],i,x,h=>by simp at h
 | a::l,0,x,h=>by
  have:a=x:=by simpa using h
  subst this
  exact List.Perm.refl _
 | a::l,i+1,x,h=>by
  have ih:=eU (l:=l) (i:=i) (x:=x) (by simpa using h)
  rw[List.eraseIdx_cons_succ]
  exact (List.Perm.swap a x _).trans (List.Perm.cons a ih)
theorem nN (l:List Nat) (i:Nat):(bY l).eraseIdx i=bY (l.eraseIdx i):=by
 unfold bY
 induction l generalizing i with
 | nil=>rfl
 | cons a l ih=>
  cases i with
  | zero=>rfl
  | succ i=>rw[List.map_cons,List.eraseIdx_cons_succ,ih,List.eraseIdx_cons_succ,List.map_cons]
theorem yE {l:List Nat} {i:Nat} (h:i<l.length):(bY l)[i]? =some (V.str (S [l[i]])):=by unfold bY;rw[List.getElem?_map,List.getElem?_eq_getElem h];rfl
theorem A7 (a b:List Nat):bY a++bY b=bY (a++b):=by unfold bY;rw[List.map_append]
theorem wB: ∀c∈bb,aU c∉bb:=by decide+kernel
theorem wC:bb.Nodup:=by decide+kernel
theorem Yd.perm {a b:List Nat} (h:Yd a) (p:a.Perm b):Yd b:=
 ⟨p.nodup_iff.mp h.nd,fun c hc=>h.lt c (p.mem_iff.mpr hc),fun c hc=>p.mem_iff.mp (h.cl c (p.mem_iff.mpr hc))⟩
structure Ei (i:Nat) (L E:List Nat):Prop where
 yd:Yd E
 nd:L.Nodup
 sm: ∀c∈L,c∈bb
 ap: ∀c∈L,c∉E
 ll:L.length=26 - i
 el:E.length=2*i
theorem Ei.start:Ei 0 bb []:=⟨⟨List.nodup_nil,fun _ h=>absurd h List.not_mem_nil,fun _ h=>absurd h List.not_mem_nil⟩,wC,fun _ h=>h,fun _ _ h=>absurd h List.not_mem_nil,rfl,rfl⟩
theorem Ei.turn {i r:Nat} {L E:List Nat} (w:Ei i L E) (hi:i<26) (hr:r<L.length):Ei (i+1) (L.eraseIdx r) (E++[L[r],aU L[r]]):=by
 have hp:=eU (l:=L) (List.getElem?_eq_getElem hr)
 have hm:L[r]∈L:=List.getElem_mem hr
 have hs:=w.sm _ hm
 have hl:Lt L[r]:= .inl hs
 have SF:=hp.nodup_iff.mpr w.nd
 have sub: ∀c∈L.eraseIdx r,c∈L:=fun c hc=>hp.mem_iff.mp (List.mem_cons_of_mem _ hc)
 have SG:=w.ap _ hm
 have U8:aU L[r]∉E:=fun z=>SG (by have:=w.yd.cl _ z;rwa [bo hl]at this)
 refine ⟨⟨?_,fun c hc=>?_,fun c hc=>?_⟩,(List.nodup_cons.mp SF).2,fun c hc=>w.sm c (sub c hc),fun c hc hE=>?_,?_,?_⟩
 ·rw[List.nodup_append]
  refine ⟨w.yd.nd,?_,fun a ha b hb z=>?_⟩
  ·rw[List.nodup_cons]
   refine ⟨fun z=>(Eh hl) (List.mem_singleton.mp z).symm,List.nodup_cons.mpr ⟨List.not_mem_nil,List.nodup_nil⟩⟩
  ·subst z
   rcases List.mem_cons.mp hb with z | z
   ·exact SG (z▸ha)
   ·exact U8 (List.mem_singleton.mp z▸ha)
 ·rcases List.mem_append.mp hc with z | z
  ·exact w.yd.lt c z
  ·rcases List.mem_cons.mp z with z | z
   ·rw[z];exact hl
   ·rw[List.mem_singleton.mp z];exact hl.aU
 ·rcases List.mem_append.mp hc with z | z
  ·exact List.mem_append_left _ (w.yd.cl c z)
  ·refine List.mem_append_right _ ?_
   rcases List.mem_cons.mp z with z | z
   ·rw[z];exact List.mem_cons_of_mem _ (List.mem_singleton.mpr rfl)
   ·rw[List.mem_singleton.mp z,bo hl];exact List.mem_cons_self
 ·rcases List.mem_append.mp hE with z | z
  ·exact w.ap c (sub c hc) z
  ·rcases List.mem_cons.mp z with z | z
   ·exact (List.nodup_cons.mp SF).1 (z▸hc)
   ·have e:c=aU L[r]:=List.mem_singleton.mp z
    exact wB _ hs (e▸w.sm c (sub c hc))
 ·have:=hp.length_eq
  rw[List.length_cons,w.ll]at this
  omega
 ·rw[List.length_append,w.el]
  show 2*i+2=_
  omega
theorem aI.du {b p:Addr} {H H':Hp} {o:HO} (h:aI b H H') (n:H p=none):aI b H (L2.upd H' p o):=fun c u e z=>by rw[aq (ak e n)];exact h c u e z
theorem bK.du {b p:Addr} {H:Hp} {o:HO} (h:bK H b) (n:p≠b):bK (L2.upd H p o) b:=let ⟨x,y,e⟩:=h;⟨x,y,by rw[aq (Ne.symm n)];exact e⟩
theorem aI.none {b p:Addr} {H H':Hp} (h:aI b H H') (n:H' p=none) (z:p≠b):H p=none:=by
 cases q:H p with
 | none=>rfl
 | some o=>rw[h p o q z]at n;cases n
theorem bK.ne {b p:Addr} {H:Hp} (h:bK H b) (n:H p=none):p≠b:=fun z=>by obtain ⟨x,y,e⟩:=h;rw[<-z,n]at e;cases e
theorem dq {c:Bool} {A B:Prop} (h:c=false) (hB:B):if c=true then A else B:=by rw[h];exact vD hB
theorem fT {c:Bool} {A B:Prop} (h:c=true) (hA:A):if c=true then A else B:=by rw[h];exact LJ hA
theorem Hq {l:List Nat} (h: ∀c∈l,Lt c): ∀c∈l,c<128:=fun c hc=>(h c hc).lt
theorem lF (a:List Nat):a.take (bY a).length=a:=by rw[aQ];exact List.take_of_length_le (Nat.le_refl _)
theorem aI.same {b:Addr} {H H2 H3:Hp} (n:H b=Option.none) (s:ah H H2) (t:aI b H2 H3):ah H H3:=fun c o e=>t c o (s c o e) (ak e n)
theorem aI.after {p:Addr} {H H1 H2:Hp} (s:aI p H H1) (t:ah H1 H2):aI p H H2:=fun c o e z=>t c o (s c o e z)
noncomputable def bX (ws:List (List Nat)):List V:=ws.map fun l=>V.str (S l)
theorem aS (ws:List (List Nat)):(bX ws).length=ws.length:=by unfold bX;rw[List.length_map]
theorem lG (ws:List (List Nat)) (l:List Nat):bX ws++[V.str (S l)]=bX (ws++[l]):=by unfold bX;rw[List.map_append];rfl
theorem iL {ws:List (List Nat)} {i:Nat} (h:i<ws.length):(bX ws)[i]? =some (V.str (S ws[i])):=by unfold bX;rw[List.getElem?_map,List.getElem?_eq_getElem h];rfl
noncomputable def b_ (st:List Nat) (c:Nat):List Nat:=if st.getLast? =some (aU c) then st.dropLast else st++[c]
noncomputable def red (l:List Nat):List Nat:=l.foldl b_ []
noncomputable def iM:List Nat->Prop
 | []=>True
 | [_]=>True
 | a::b::r=>a≠aU b/\iM (b::r)
theorem iM.tail: ∀{a:Nat} {r:List Nat},iM (a::r)->iM r
 | _,[],_=>trivial
 | _,_::_,h=>h.2
theorem iM.snoc: ∀{l:List Nat} {c:Nat},iM l->l.getLast?≠ some (aU c)->iM (l++[c])
 | [],_,_,_=>trivial
 | [a],c,_,h=>⟨fun z=>h (by rw[z];rfl),trivial⟩
 | a::b::r,c,h,k=>⟨h.1,iM.snoc (l:=b::r) h.2 (by simpa using k)⟩
theorem iM.init: ∀{l:List Nat} {c:Nat},iM (l++[c])->iM l/\l.getLast?≠ some (aU c)
 | [],_,_=>⟨trivial,by simp⟩
 | [a],c,h=>⟨trivial,fun z=>h.1 (by simpa using z)⟩
 | a::b::r,c,h=>by
  have ih:=iM.init (l:=b::r) (c:=c) h.2
  exact ⟨⟨h.1,ih.1⟩,by simpa using ih.2⟩
theorem snoc_cases (l:List Nat):l=[]\/ ∃m a,l=m++[a]:=by
 by_cases h:l=[]
 ·exact .inl h
 ·exact .inr ⟨l.dropLast,l.getLast h,(List.dropLast_concat_getLast h).symm⟩
theorem iM.left: ∀{m l:List Nat},iM (m++l)->iM m
 | [],_,_=>trivial
 | [_],_,_=>trivial
 | a::b::r,l,h=>⟨h.1,iM.left (m:=b::r) (l:=l) h.2⟩
theorem jT {l:List Nat} {c:Nat} (h:l.getLast? =some c): ∃m,l=m++[c]:=by
 rcases snoc_cases l with rfl | ⟨m,a,rfl⟩
 ·simp at h
 ·refine ⟨m,?_⟩
  have:a=c:=by simpa using h
  rw[this]
theorem wD {st:List Nat} {c:Nat} (h:iM st):iM (b_ st c):=by
 unfold b_
 by_cases e:st.getLast? =some (aU c)
 ·rw[if_pos e]
  obtain ⟨m,rfl⟩:=jT e
  rw[List.dropLast_concat]
  exact h.init.1
 ·rw[if_neg e]
  exact h.snoc e
theorem nO {st:List Nat} {c d:Nat} (h:d∈b_ st c):d∈st\/d=c:=by
 unfold b_ at h
 by_cases e:st.getLast? =some (aU c)
 ·rw[if_pos e]at h
  exact .inl (List.dropLast_subset _ h)
 ·rw[if_neg e]at h
  rcases List.mem_append.mp h with z | z
  ·exact .inl z
  ·exact .inr (List.mem_singleton.mp z)
theorem sM {st:List Nat} {x y:Nat} (h:iM st) (hy:Lt y) (e:x=aU y):b_ (b_ st x) y=st:=by
 subst e
 unfold b_
 by_cases z:st.getLast? =some (aU (aU y))
 ·rw[if_pos z]
  obtain ⟨m,rfl⟩:=jT z
  rw[List.dropLast_concat,bo hy]
  have:=h.init.2
  rw[bo hy]at this
  rw[if_neg this]
 ·rw[if_neg z,if_pos (by simp),List.dropLast_concat]
theorem lH: ∀(l st:List Nat),iM st->iM (l.foldl b_ st)
 | [],_,h=>h
 | _::l,_,h=>lH l _ (wD h)
theorem A8 (l:List Nat):iM (red l):=lH l [] trivial
theorem eV {a b:List Nat} {x y:Nat} (hy:Lt y) (e:x=aU y):red (a++x::y::b)=red (a++b):=by
 unfold red
 rw[List.foldl_append,List.foldl_cons,List.foldl_cons,sM (lH a [] trivial) hy e, <-List.foldl_append]
theorem fold_same: ∀(l st:List Nat),iM (st++l)->l.foldl b_ st=st++l
 | [],st,_=>by simp
 | c::l,st,h=>by
  have h':iM ((st++[c])++l):=by rw[List.append_assoc];exact h
  have h2:=(iM.left h').init.2
  rw[List.foldl_cons]
  have:b_ st c=st++[c]:=by unfold b_;rw[if_neg h2]
  rw[this,fold_same l (st++[c]) h',List.append_assoc]
  rfl
theorem eX {l:List Nat} (h:iM l):red l=l:=by
 exact fold_same l [] h
theorem fold_lt: ∀(l st:List Nat),(∀c∈l,Lt c)->(∀c∈st,Lt c)-> ∀c∈l.foldl b_ st,Lt c
 | [],_,_,h=>h
 | a::l,st,h1,h2=>fold_lt l _ (fun c hc=>h1 c (List.mem_cons_of_mem _ hc)) fun c hc=>(nO hc).elim (h2 c) fun z=>z▸h1 a List.mem_cons_self
theorem o_ {l:List Nat} (h: ∀c∈l,Lt c): ∀c∈red l,Lt c:=fold_lt l [] h fun _ h=>absurd h List.not_mem_nil
theorem wF (st:List Nat) (c:Nat):(b_ st c).length<=st.length+1:=by
 unfold b_
 by_cases e:st.getLast? =some (aU c)
 ·rw[if_pos e,List.length_dropLast];omega
 ·rw[if_neg e,List.length_append];exact Nat.le_refl _
theorem qI: ∀(l st:List Nat),(l.foldl b_ st).length<=st.length+l.length
 | [],_=>Nat.le_refl _
 | c::l,st=>by
  have:=qI l (b_ st c)
  have h2:=wF st c
  rw[List.foldl_cons,List.length_cons]
  omega
theorem fU (l:List Nat):(red l).length<=l.length:=by
 have:=qI l []
 rw[List.length_nil,Nat.zero_add]at this
 exact this
theorem yF {l:List Nat} {i c:Nat} (h:l[i]? =some c):red (l.take (i+1))=b_ (red (l.take i)) c:=by
 unfold red
 rw[<-take_snoc h,List.foldl_append]
 rfl
theorem yG: ∀{l:List Nat},(∀k a b,l[k]? =some a->l[k+1]? =some b->a≠aU b)->iM l
 | [],_=>trivial
 | [_],_=>trivial
 | a::b::r,h=>⟨h 0 a b rfl rfl,yG (l:=b::r) fun k x y h1 h2=>h (k+1) x y (by simpa using h1) (by simpa using h2)⟩
noncomputable def xu (l:List Nat) (s e:Nat):List Nat:=(l.drop s).take (e - s)
noncomputable def strip:Nat->List Nat->List Nat
 | 0,l=>l
 | n+1,l=>match l with
  | []=>[]
  | [a]=>[a]
  | a::b::r=>if a=aU ((b::r).getLast (by simp)) then strip n (b::r).dropLast else a::b::r
theorem dI: ∀(n:Nat) {l:List Nat},l.length<2->strip n l=l
 | 0,_,_=>rfl
 | _+1,[],_=>rfl
 | _+1,[_],_=>rfl
 | _+1,_::_::_,h=>by simp at h;omega
theorem jl (l:List Nat) (y:Nat):(l++[y]).getLast (by simp)=y:=by simp
theorem strip_go (n:Nat) {a y:Nat} {m:List Nat} (h:a=aU y):strip (n+1) (a::(m++[y]))=strip n m:=by
 cases m with
 | nil=>
  show (if a=aU (([y]:List Nat).getLast (by simp)) then strip n ([y]:List Nat).dropLast else _)=strip n []
  rw[if_pos (by simpa using h)]
  rfl
 | cons b r=>
  show (if a=aU ((b::(r++[y])).getLast (by simp)) then strip n (b::(r++[y])).dropLast else _)=strip n (b::r)
  have e1:(b::(r++[y])).getLast (by simp)=y:=jl (b::r) y
  have e2:(b::(r++[y])).dropLast=b::r:=by
   have:b::(r++[y])=(b::r)++[y]:=rfl
   rw[this,List.dropLast_concat]
  rw[if_pos (by rw[e1];exact h),e2]
theorem strip_stop (n:Nat) {a y:Nat} {m:List Nat} (h:a≠aU y):strip n (a::(m++[y]))=a::(m++[y]):=by
 cases n with
 | zero=>rfl
 | succ n=>
  cases m with
  | nil=>
   show (if a=aU (([y]:List Nat).getLast (by simp)) then _ else _)=_
   rw[if_neg (by simpa using h)]
   rfl
  | cons b r=>
   show (if a=aU ((b::(r++[y])).getLast (by simp)) then _ else _)=_
   have e1:(b::(r++[y])).getLast (by simp)=y:=jl (b::r) y
   rw[if_neg (by rw[e1];exact h)]
   rfl
theorem qJ {l:List Nat} (h:2<=l.length): ∃a m y,l=a::(m++[y]):=by
 cases l with
 | nil=>simp at h
 | cons a r=>
  rcases snoc_cases r with rfl | ⟨m,y,rfl⟩
  ·simp at h
  ·exact ⟨a,m,y,rfl⟩
theorem lI: ∀(n:Nat) (l:List Nat) (k:Nat),l.length<=n->strip (n+k) l=strip n l
 | 0,l,k,h=>by rw[dI _ (by omega),dI _ (by omega)]
 | n+1,l,k,h=>by
  by_cases h2:l.length<2
  ·rw[dI _ h2,dI _ h2]
  ·obtain ⟨a,m,y,rfl⟩:=qJ (l:=l) (by omega)
   have hm:m.length<=n:=by simp at h;omega
   by_cases e:a=aU y
   ·have:n+1+k=(n+k)+1:=by omega
    rw[this,strip_go _ e,strip_go _ e,lI n m k hm]
   ·rw[strip_stop _ e,strip_stop _ e]
noncomputable def core (l:List Nat):List Nat:=strip l.length l
theorem g_ {a y:Nat} {m:List Nat} (h:a=aU y):core (a::(m++[y]))=core m:=by
 unfold core
 have:(a::(m++[y])).length=(m.length+1)+1:=by simp
 rw[this,strip_go _ h,lI _ _ _ (Nat.le_refl _)]
theorem dw {a y:Nat} {m:List Nat} (h:a≠aU y):core (a::(m++[y]))=a::(m++[y]):=strip_stop _ h
theorem dz {l:List Nat} (h:l.length<2):core l=l:=dI _ h
theorem jm {P:List Nat->List Nat->Prop} (h1: ∀l,l.length<2->P l l) (h2: ∀a m y,a≠aU y->P (a::(m++[y])) (a::(m++[y]))) (h3: ∀a m y r,a=aU y->P m r->P (a::(m++[y])) r): ∀(n:Nat) (l:List Nat),l.length<=n->P l (core l)
 | 0,l,h=>by rw[dz (by omega)];exact h1 l (by omega)
 | n+1,l,h=>by
  by_cases hl:l.length<2
  ·rw[dz hl];exact h1 l hl
  ·obtain ⟨a,m,y,rfl⟩:=qJ (l:=l) (by omega)
   by_cases e:a=aU y
   ·rw[g_ e]
    exact h3 a m y _ e (jm h1 h2 h3 n m (by simp at h;omega))
   ·rw[dw e];exact h2 a m y e
theorem yH {l:List Nat} {c:Nat}:c∈core l->c∈l:=
 jm (P:=fun l r=>c∈r->c∈l) (fun _ _ h=>h) (fun _ _ _ _ h=>h) (fun a m y r _ k h=>List.mem_cons_of_mem _ (List.mem_append_left _ (k h))) l.length l (Nat.le_refl _)
theorem gT (l:List Nat):(core l).length<=l.length:=
 jm (P:=fun l r=>r.length<=l.length) (fun _ _=>Nat.le_refl _) (fun _ _ _ _=>Nat.le_refl _) (fun a m y r _ k=>by simp;omega) l.length l (Nat.le_refl _)
theorem Ej {l:List Nat} {s e:Nat} (h1:s+2<=e) (h2:e<=l.length):xu l s e=l[s]::(xu l (s+1) (e - 1)++[l[e - 1]]):=by
 unfold xu
 rw[List.drop_eq_getElem_cons (by omega)]
 have e1:e - s=(e - 1 - (s+1))+1+1:=by omega
 rw[e1,List.take_succ_cons,List.take_add_one,List.getElem?_drop]
 have e2:s+1+(e - 1 - (s+1))=e - 1:=by omega
 rw[e2,List.getElem?_eq_getElem (by omega)]
 rfl
theorem A9 {l:List Nat} {s e:Nat} (h2:e<=l.length):(xu l s e).length=e - s:=by unfold xu;rw[List.length_take,List.length_drop];omega
theorem A_ (l:List Nat):xu l 0 l.length=l:=by unfold xu;simp
noncomputable def jn (_:PySem.W.Frag):Sp:=fun vs H Q _=> ∃l:List Nat,vs=[.str (S l)]/\(∀c∈l,Lt c)/\l.length<=1000/\ ∀H',ah H H'->Q (.str (S (red l))) H'
theorem mU {K:PySem.W.Frag} {vs:List V} {H:Hp} {Q:VK} {E:XK} (h:jn K vs H Q E):vs.length=1:=by obtain ⟨c,rfl,_⟩:=h;rfl
noncomputable def kd (_:PySem.W.Frag):Sp:=fun vs H Q _=> ∃l:List Nat,vs=[.str (S l)]/\(∀c∈l,Lt c)/\l.length<=1000/\ ∀H',ah H H'->Q (.str (S (core (red l)))) H'
theorem pf {K:PySem.W.Frag} {vs:List V} {H:Hp} {Q:VK} {E:XK} (h:kd K vs H Q E):vs.length=1:=by obtain ⟨c,rfl,_⟩:=h;rfl
theorem jU {α:Type} (l:List α) (k:Nat):cut l none (some (k:Int))=l.take k:=by
 unfold cut
 rw[HT.p_,HT.kE,List.drop_zero,Nat.sub_zero]
 by_cases h:k<=l.length
 ·rw[Nat.min_eq_left h]
 ·rw[Nat.min_eq_right (by omega),List.take_of_length_le (Nat.le_refl _),List.take_of_length_le (by omega)]
theorem cA {α:Type} (l:List α) (k:Nat):cut l (some (k:Int)) none=l.drop k:=by
 unfold cut
 rw[HT.p_,HT.kE]
 by_cases h:k<=l.length
 ·rw[Nat.min_eq_left h,List.take_of_length_le (by rw[List.length_drop];exact Nat.le_refl _)]
 ·rw[Nat.min_eq_right (by omega),List.drop_of_length_le (Nat.le_refl _),List.drop_of_length_le (by omega)]
  simp
noncomputable def Spot (w:List Nat) (k:Nat):Prop:= ∃a b,w[k]? =some a/\w[k+1]? =some b/\a=aU b
theorem sN {w:List Nat} {k:Nat} (h:Spot w k): ∃a b,w=w.take k++a::b::w.drop (k+2)/\a=aU b/\b∈w:=by
 obtain ⟨a,b,h1,h2,e⟩:=h
 obtain ⟨k1,e1⟩:=List.getElem?_eq_some_iff.mp h1
 obtain ⟨k2,e2⟩:=List.getElem?_eq_some_iff.mp h2
 refine ⟨a,b,?_,e,List.mem_of_getElem? h2⟩
 have d1:w.drop k=a::w.drop (k+1):=by rw[List.drop_eq_getElem_cons k1,e1]
 have d2:w.drop (k+1)=b::w.drop (k+2):=by rw[List.drop_eq_getElem_cons k2,e2]
 rw[<-d2, <-d1,List.take_append_drop]
theorem yI {w:List Nat} {k:Nat} (h:Spot w k) (hw: ∀c∈w,Lt c):red (w.take k++w.drop (k+2))=red w/\(w.take k++w.drop (k+2)).length+2=w.length:=by
 obtain ⟨a,b,e,ea,hb⟩:=sN h
 constructor
 ·have:=eV (a:=w.take k) (b:=w.drop (k+2)) (hw b hb) ea
  rw[<-this, <-e]
 ·have:=congrArg List.length e
  rw[List.length_append,List.length_cons,List.length_cons]at this
  rw[List.length_append]
  omega
theorem Ba {w:List Nat} (h: ∀k, ¬Spot w k):red w=w:=eX (yG fun k a b h1 h2 e=>h k ⟨a,b,h1,h2,e⟩)
noncomputable def yJ (ks:List Nat):List V:=ks.map fun (k:Nat)=>V.int k
noncomputable def ids (ks:List Nat):List PyData:=ks.map fun (k:Nat)=>PyData.int k
theorem nP {K:PySem.W.Frag} {H:Hp}: ∀ks:List Nat,fz K H (yJ ks) (ids ks)
 | []=> .nil
 | k::ks=> .cons (.int _) (nP ks)
theorem lay_ints: ∀ks:List Nat,PyData.canLayAll0 (ids ks)=true
 | []=>rfl
 | k::ks=>by show (PyData.canLay0 (.int _)&&PyData.canLayAll0 (ids ks))=true;rw[lay_ints ks];rfl
theorem lJ: ∀ks:List Nat,PyData.depthAll (ids ks)=0
 | []=>rfl
 | k::ks=>by show max (PyData.depth (.int _)) (PyData.depthAll (ids ks))=0;rw[lJ ks];rfl
noncomputable def ph (ws:List (List Nat)):List PyData:=ws.map fun l=>PyData.str (S l)
theorem jo {K:PySem.W.Frag} {H:Hp}: ∀ws:List (List Nat),fz K H (bX ws) (ph ws)
 | []=> .nil
 | w::ws=> .cons (.str _) (jo ws)
theorem Ek {l:List Nat} (h: ∀c∈l,c<128):PyData.strOk (S l)=true:=by
 unfold PyData.strOk
 rw[Array.all_eq_true_iff_forall_mem]
 intro c hc
 have:c∈l:=by simpa [S]using hc
 have:=h c this
 simp;omega
theorem uL: ∀{ws:List (List Nat)},(∀l∈ws, ∀c∈l,c<128)->PyData.canLayAll0 (ph ws)=true
 | [],_=>rfl
 | w::ws,h=>by
  show (PyData.strOk (S w)&&PyData.canLayAll0 (ph ws))=true
  rw[Ek (h w List.mem_cons_self),uL fun l hl=>h l (List.mem_cons_of_mem _ hl)]
  rfl
theorem nQ: ∀ws:List (List Nat),PyData.depthAll (ph ws)=0
 | []=>rfl
 | k::ks=>by show max (PyData.depth (.str _)) (PyData.depthAll (ph ks))=0;rw[nQ ks];rfl
mutual
theorem eqv_refl: ∀d:PyData,d.hasDict=false->PyData.eqv d d=true
 | .none,_=>rfl
 | .bool b,_=>by simp[PyData.eqv]
 | .int i,_=>by simp[PyData.eqv]
 | .str x,_=>by simp[PyData.eqv]
 | .list xs,h=>by show PyData.eqvAll xs xs=true;exact eqvAll_refl xs (by simpa [PyData.hasDict]using h)
 | .tuple xs,h=>by show PyData.eqvAll xs xs=true;exact eqvAll_refl xs (by simpa [PyData.hasDict]using h)
 | .dict kvs,h=>by simp[PyData.hasDict]at h
theorem eqvAll_refl: ∀ds:List PyData,PyData.hasDictAll ds=false->PyData.eqvAll ds ds=true
 | [],_=>rfl
 | d::ds,h=>by
  simp[PyData.hasDictAll]at h
  show (PyData.eqv d d&&PyData.eqvAll ds ds)=true
  rw[eqv_refl d h.1,eqvAll_refl ds h.2]
  rfl
end
noncomputable def dJ (c:List Nat) (k:Nat):List Nat:=c.drop k++c.take k
noncomputable def ik (c:List Nat) (n:Nat):List (List Nat):=(List.range n).map fun k=>dJ c (k+1)
noncomputable def fD (c:List Nat):List Nat:=bP c (ik c (c.length - 1))
@[irreducible] noncomputable def az (w:List Nat):List Nat:=fD (core (red w))
theorem dM (w:List Nat):az w=fD (core (red w)):=by unfold az;rfl
theorem nR (c:List Nat) (n:Nat):ik c (n+1)=ik c n++[dJ c (n+1)]:=by unfold ik;rw[List.range_succ,List.map_append];rfl
theorem fW: ∀(r:List (List Nat)) (a b:List Nat),bP a (r++[b])=cx (bP a r) b
 | [],_,_=>rfl
 | _::r,_,_=>fW r _ _
theorem jq (c:List Nat) (k:Nat):(dJ c k).length=c.length:=by unfold dJ;rw[List.length_append,List.length_drop,List.length_take];omega
theorem Bb {c:List Nat} {k x:Nat} (h:x∈dJ c k):x∈c:=(List.mem_append.mp h).elim List.mem_of_mem_drop List.mem_of_mem_take
theorem iN: ∀(r:List (List Nat)) (a:List Nat),bP a r=a\/bP a r∈r
 | [],a=> .inl rfl
 | b::r,a=>by
  rcases iN r (cx a b) with h | h
  ·have hl:cx a b=a\/cx a b=b:=by unfold cx;split<;>simp
   rcases hl with e | e
   ·left;show bP (cx a b) r=a;rw[h,e]
   ·right;show bP (cx a b) r∈b::r;rw[h,e];exact List.mem_cons_self
  ·right;exact List.mem_cons_of_mem _ h
theorem wG (c:List Nat): ∃k,fD c=dJ c k:=by
 rcases iN (ik c (c.length - 1)) c with h | h
 ·exact ⟨0,by show bP _ _=_;rw[h];unfold dJ;simp⟩
 ·unfold ik at h
  obtain ⟨k,_,e⟩:=List.mem_map.mp h
  exact ⟨k+1,e.symm⟩
theorem Bc {w:List Nat} (h: ∀c∈w,Lt c): ∀c∈core (red w),Lt c:=fun c hc=>o_ h c (yH hc)
theorem yK {w:List Nat} (h: ∀c∈w,Lt c): ∀c∈az w,Lt c:=fun c hc=>by
 obtain ⟨k,e⟩:=wG (core (red w))
 unfold az at hc
 rw[e]at hc
 exact Bc h c (Bb hc)
noncomputable def uM (_:PySem.W.Frag):Sp:=fun vs H Q _=> ∃l:List Nat,vs=[.str (S l)]/\(∀c∈l,Lt c)/\l.length<=1000/\ ∀H',ah H H'->Q (.str (S (az l))) H'
theorem yL {K:PySem.W.Frag} {vs:List V} {H:Hp} {Q:VK} {E:XK} (h:uM K vs H Q E):vs.length=1:=by obtain ⟨c,rfl,_⟩:=h;rfl
noncomputable def lK (_:PySem.W.Frag):Sp:=fun vs H Q _=> ∃a b:List Nat,vs=[.str (S a), .str (S b)]/\(∀c∈a,Lt c)/\a.length<=1000/\(∀c∈b,Lt c)/\b.length<=1000/\ ∀H',ah H H'->Q (.bl (decide (az a=az b))) H'
theorem qK {K:PySem.W.Frag} {vs:List V} {H:Hp} {Q:VK} {E:XK} (h:lK K vs H Q E):vs.length=2:=by obtain ⟨c,d,rfl,_⟩:=h;rfl
noncomputable def AllLt (l:List Nat):Prop:= ∀c∈l,Lt c
theorem AllLt.app {a b:List Nat} (h:AllLt a) (g:AllLt b):AllLt (a++b):=fun c hc=>(List.mem_append.mp hc).elim (h c) (g c)
theorem AllLt.left {a b:List Nat} (h:AllLt (a++b)):AllLt a:=fun c hc=>h c (List.mem_append_left _ hc)
theorem AllLt.right {a b:List Nat} (h:AllLt (a++b)):AllLt b:=fun c hc=>h c (List.mem_append_right _ hc)
theorem lL: ∀(t st x y:List Nat),AllLt t->red (x++(st++t)++y)=red (x++t.foldl b_ st++y)
 | [],st,x,y,_=>by rw[List.append_nil];rfl
 | c::t,st,x,y,h=>by
  have hc:Lt c:=h c List.mem_cons_self
  have ht:AllLt t:=fun d hd=>h d (List.mem_cons_of_mem _ hd)
  rw[List.foldl_cons, <-lL t (b_ st c) x y ht]
  unfold b_
  by_cases e:st.getLast? =some (aU c)
  ·rw[if_pos e]
   obtain ⟨m,rfl⟩:=jT e
   rw[List.dropLast_concat]
   have:=eV (a:=x++m) (b:=t++y) hc rfl
   simpa [List.append_assoc]using this
  ·rw[if_neg e]
   simp[List.append_assoc]
theorem uN {t:List Nat} (x y:List Nat) (h:AllLt t):red (x++t++y)=red (x++red t++y):=by
 have:red (x++([]++t)++y)=red (x++red t++y):=lL t [] x y h
 simpa using this
theorem yM {t:List Nat} (y:List Nat) (h:AllLt t):red (t++y)=red (red t++y):=by simpa using uN [] y h
theorem wH {t:List Nat} (x:List Nat) (h:AllLt t):red (x++t)=red (x++red t):=by simpa using uN x [] h
theorem qL (c:Nat) (l:List Nat):qE (c::l)=qE l++[aU c]:=by unfold qE;rw[List.map_cons,List.reverse_cons]
theorem lM (a b:List Nat): ¬a<cx a b:=by
 unfold cx
 split
 ·rename_i h;exact fun g=>List.lt_irrefl a (List.lt_trans g h)
 ·exact List.lt_irrefl a
theorem ku (a b:List Nat): ¬b<cx a b:=by
 unfold cx
 split
 ·exact List.lt_irrefl b
 ·rename_i h;exact h
theorem B7 {a b c:List Nat} (h: ¬b<a) (g: ¬c<b): ¬c<a:=List.le_trans (show a<=b from h) (show b<=c from g)
theorem Bd {a b:List Nat} (h: ¬b<a) (g: ¬a<b):a=b:=List.le_antisymm (show a<=b from h) (show b<=a from g)
theorem iO: ∀(r:List (List Nat)) (a:List Nat), ∀x∈a::r, ¬x<bP a r
 | [],a,x,hx=>by rw[List.mem_singleton.mp hx];exact List.lt_irrefl a
 | b::r,a,x,hx=>by
  show ¬x<bP (cx a b) r
  have h0:=iO r (cx a b) (cx a b) List.mem_cons_self
  rcases List.mem_cons.mp hx with e | hx
  ·rw[e];exact B7 h0 (lM a b)
  ·rcases List.mem_cons.mp hx with e | hx
   ·rw[e];exact B7 h0 (ku a b)
   ·exact iO r (cx a b) x (List.mem_cons_of_mem _ hx)
theorem lN (c:List Nat):dJ c 0=c:=by unfold dJ;simp
theorem Be (c:List Nat):dJ c c.length=c:=by unfold dJ;simp
theorem qM (c:List Nat) (k:Nat) (hk:k<=c.length): ¬dJ c k<fD c:=by
 have h:=iO (ik c (c.length - 1)) c
 by_cases z:k=0
 ·rw[z,lN];exact h c List.mem_cons_self
 ·by_cases z2:k=c.length
  ·rw[z2,Be];exact h c List.mem_cons_self
  ·refine h _ (List.mem_cons_of_mem _ ?_)
   unfold ik
   exact List.mem_map.mpr ⟨k - 1,List.mem_range.mpr (by omega),by rw[show k - 1+1=k by omega]⟩
theorem fX (c:List Nat): ∃k,k<=c.length/\fD c=dJ c k:=by
 rcases iN (ik c (c.length - 1)) c with h | h
 ·exact ⟨0,Nat.zero_le _,by show bP _ _=_;rw[h,lN]⟩
 ·unfold ik at h
  obtain ⟨k,hk,e⟩:=List.mem_map.mp h
  have:=List.mem_range.mp hk
  exact ⟨k+1,by omega,e.symm⟩
theorem yN {c m:List Nat} (h1: ∃k,k<=c.length/\m=dJ c k) (h2: ∀k,k<=c.length-> ¬dJ c k<m):fD c=m:=by
 obtain ⟨k,hk,e⟩:=h1
 obtain ⟨j,hj,e2⟩:=fX c
 refine Bd ?_ ?_
 ·rw[e];exact qM c k hk
 ·rw[e2];exact h2 j hj
theorem pj (a b:List Nat):dJ (a++b) a.length=b++a:=by unfold dJ;rw[List.drop_left,List.take_left]
theorem pq {c:List Nat} {k j:Nat} (hk:k<=c.length) (hj:j<=c.length): ∃i,i<=c.length/\dJ (dJ c k) j=dJ c i:=by
 by_cases z:j<=c.length - k
 ·refine ⟨k+j,by omega,?_⟩
  unfold dJ
  rw[List.drop_append_of_le_length (by rw[List.length_drop];omega),List.take_append_of_le_length (by rw[List.length_drop];omega),List.drop_drop,List.append_assoc, <-List.take_add]
 ·refine ⟨j - (c.length - k),by omega,?_⟩
  unfold dJ
  have e1:(c.drop k).length=c.length - k:=List.length_drop
  rw[List.drop_append,List.take_append,e1,List.drop_of_length_le (by rw[e1];omega),List.take_of_length_le (l:=c.drop k) (by rw[e1];omega),List.nil_append,List.drop_take,List.take_take]
  have e2:min (j - (c.length - k)) k=j - (c.length - k):=by omega
  rw[e2]
  have e3:c.drop (j - (c.length - k))=(c.drop (j - (c.length - k))).take (k - (j - (c.length - k)))++c.drop k:=by
   have:=List.take_append_drop (k - (j - (c.length - k))) (c.drop (j - (c.length - k)))
   rw[List.drop_drop]at this
   have e:j - (c.length - k)+(k - (j - (c.length - k)))=k:=by omega
   rw[e]at this
   exact this.symm
  rw[e3,List.append_assoc]
  congr 2
  exact e3.symm
theorem sO {c:List Nat} {k:Nat} (hk:k<=c.length):fD (dJ c k)=fD c:=by
 refine (yN (c:=c) ?_ fun j hj=>?_).symm
 ·obtain ⟨j,hj,e⟩:=fX (dJ c k)
  rw[jq]at hj
  rw[e]
  exact pq hk hj
 ·have hb:c=dJ (dJ c k) (c.length - k):=by
   have e:dJ c k=c.drop k++c.take k:=rfl
   have:=pj (c.drop k) (c.take k)
   rw[List.length_drop, <-e]at this
   rw[this,List.take_append_drop]
  obtain ⟨i,hi,e⟩:=pq (c:=dJ c k) (k:=c.length - k) (j:=j) (by rw[jq];omega) (by rw[jq];exact hj)
  rw[<-hb]at e
  rw[e]
  exact qM _ i hi
theorem lO (a b:List Nat):fD (a++b)=fD (b++a):=by
 rw[<-pj a b]
 exact (sO (by rw[List.length_append];omega)).symm
theorem sR {a b:Nat} (ha:Lt a) (hb:Lt b) (h:a≠aU b):b≠aU a:=fun z=>h (by rw[z,bo ha])
theorem nS {l:List Nat} (h: ∀a m y,l=a::(m++[y])->a≠aU y):core l=l:=by
 by_cases z:l.length<2
 ·exact dz z
 ·obtain ⟨a,m,y,rfl⟩:=qJ (l:=l) (by omega)
  exact dw (h a m y rfl)
theorem yO {c d:Nat} {r:List Nat} (h:iM (d::r)) (hc:c≠aU d):iM (c::d::r):=⟨hc,h⟩
theorem El {c:Nat} {t:List Nat} (hc:Lt c) (ht:AllLt t):fD (core (red (c::t)))=fD (core (red (t++[c]))):=by
 have e1:red (c::t)=red (c::red t):=wH [c] ht
 have e2:red (t++[c])=red (red t++[c]):=yM [c] ht
 rw[e1,e2]
 have hr:iM (red t):=A8 t
 have nL:AllLt (red t):=o_ ht
 generalize red t=r at hr nL
 cases r with
 | nil=>rfl
 | cons d s=>
  have hd:Lt d:=nL d List.mem_cons_self
  have Mf:AllLt s:=fun x hx=>nL x (List.mem_cons_of_mem _ hx)
  obtain ⟨m,e,zT⟩: ∃m e,d::s=m++[e]:=by
   rcases snoc_cases (d::s) with z | ⟨m,e,z⟩
   ·cases z
   ·exact ⟨m,e,z⟩
  have wI:Lt e:=nL e (by rw[zT];simp)
  have last:(d::s).getLast? =some e:=by rw[zT];simp
  by_cases pZ:c=aU d
  ·have f1:red (c::d::s)=s:=by
    have:=eV (a:=[]) (b:=s) hd pZ
    rw[List.nil_append,List.nil_append]at this
    rw[this,eX hr.tail]
   rw[f1]
   by_cases B8:e=aU c
   ·have f2:red (d::s++[c])=m:=by
     rw[zT,List.append_assoc]
     have:=eV (a:=m) (b:=[]) hc B8
     rw[List.append_nil]at this
     show red (m++e::c::[])=m
     rw[this,eX]
     rw[zT]at hr
     exact hr.init.1
    rw[f2]
    have U9:e=d:=by rw[B8,pZ,bo hd]
    subst U9
    cases m with
    | nil=>
     have:s=[]:=by cases zT;rfl
     rw[this]
    | cons x m'=>
     have hx:x=e/\s=m'++[e]:=by
      have:=zT
      rw[List.cons_append]at this
      injection this with h1 h2
      exact ⟨h1.symm,h2⟩
     obtain ⟨rfl,rfl⟩:=hx
     have k1:core (m'++[x])=m'++[x]:=nS fun a mm y z=>by
      cases m' with
      | nil=>simp at z
      | cons a' YM=>
       rw[List.cons_append]at z
       injection z with z1 z2
       have z3:y=x:=by
        have:=congrArg List.getLast? z2
        simpa using this.symm
       rw[<-z1,z3]
       exact sR hd (Mf a' (by simp)) hr.1
     have k2:core (x::m')=x::m':=nS fun a mm y z=>by
      injection z with z1 z2
      rw[<-z1]
      subst z2
      have:=hr.tail
      rw[List.append_assoc]at this
      have h4:iM ((mm++[y])++[x]):=by rw[List.append_assoc];exact this
      have h5:=h4.init.2
      intro z
      exact h5 (by rw[z,List.getLast?_concat,bo (Mf y (by simp))])
     rw[k1,k2]
     exact lO m' [x]
   ·have f2:red (d::s++[c])=d::s++[c]:=eX (hr.snoc (by rw[last];intro z;exact B8 (by injection z)))
    rw[f2]
    have:core (d::(s++[c]))=core s:=g_ (by rw[pZ,bo hd])
    rw[List.cons_append,this]
  ·have f1:red (c::d::s)=c::d::s:=eX (yO hr pZ)
   rw[f1]
   by_cases B8:e=aU c
   ·have f2:red (d::s++[c])=m:=by
     rw[zT,List.append_assoc]
     have:=eV (a:=m) (b:=[]) hc B8
     rw[List.append_nil]at this
     show red (m++e::c::[])=m
     rw[this,eX]
     rw[zT]at hr
     exact hr.init.1
    rw[f2,zT,g_ (by rw[B8,bo hc])]
   ·have f2:red (d::s++[c])=d::s++[c]:=eX (hr.snoc (by rw[last];intro z;exact B8 (by injection z)))
    rw[f2]
    have k1:core (c::d::s)=c::d::s:=by
     rw[zT]
     exact dw (sR wI hc B8)
    have k2:core (d::s++[c])=d::s++[c]:=by
     rw[List.cons_append]
     exact dw (sR hc hd pZ)
    rw[k1,k2]
    exact lO [c] (d::s)
theorem nU: ∀{u v:List Nat},AllLt u->AllLt v->az (u++v)=az (v++u)
 | [],v,_,_=>by rw[List.append_nil];rfl
 | c::u,v,hu,hv=>by
  have hc:Lt c:=hu c List.mem_cons_self
  have SH:AllLt u:=fun x hx=>hu x (List.mem_cons_of_mem _ hx)
  have e1:az (c::u++v)=az (u++v++[c]):=by
   rw[dM,dM]
   exact El hc (SH.app hv)
  have e2:=nU (u:=u) (v:=v++[c]) SH (hv.app fun x hx=>by rw[List.mem_singleton.mp hx];exact hc)
  rw[e1,List.append_assoc,e2,List.append_assoc]
  rfl
theorem sS {r:List Nat}:AllLt r-> ∃p,AllLt p/\r=p++core r++qE p:=
 jm (P:=fun l c=>AllLt l-> ∃p,AllLt p/\l=p++c++qE p) (fun l _ _=>⟨[],fun _ h=>absurd h List.not_mem_nil,by simp[qE]⟩) (fun a m y _ _=>⟨[],fun _ h=>absurd h List.not_mem_nil,by simp[qE]⟩)
  (fun a m y c e ih h=>by
   have ha:Lt a:=h a List.mem_cons_self
   have hy:Lt y:=h y (by simp)
   obtain ⟨p,hp,e2⟩:=ih fun x hx=>h x (by simp[hx])
   refine ⟨a::p,fun x hx=>?_,?_⟩
   ·rcases List.mem_cons.mp hx with z | z
    ·rw[z];exact ha
    ·exact hp x z
   ·have e3:aU a=y:=by rw[e,bo hy]
    rw[qL,e3]
    have:m++[y]=p++c++qE p++[y]:=by rw[<-e2]
    rw[this]
    simp[List.append_assoc]) r.length r (Nat.le_refl _)
theorem yP {w:List Nat} {k:Nat} (h:AllLt w):az (dJ w k)=az w:=by
 unfold dJ
 have h1:AllLt (w.take k++w.drop k):=by rw[List.take_append_drop];exact h
 rw[nU h1.right h1.left,List.take_append_drop]
noncomputable def JS:List Nat:=[97,98,99,100,101,102,103,104,105,106,107,108,109,110,111,112,113,114,115,116,117,118,119,120,121,122,65,66,67,68,69,70,71,72,73,74,75,76,77,78,79,80,81,82,83,84,85,86,87,88,89,90]
theorem bF: ∀c∈bb,cn c=true/\PyProof.Rows.lo1 c=c/\aU c∈jS:=by decide+kernel
theorem cT: ∀c∈jS,cn c=false/\PyProof.Rows.lo1 c=aU c/\c∉bb/\aU c∈bb:=by decide+kernel
theorem nV: ∀c∈jS,c∉bb:=by decide+kernel
theorem hJ {c:Nat} (h:Lt c):cn c=decide (c∈bb):=by
 rcases h with h | h
 ·rw[(bF c h).1,decide_eq_true h]
 ·rw[(cT c h).1,decide_eq_false (cT c h).2.2.1]
noncomputable def kept (sm:List Nat) (c:Nat):Bool:=decide (PyProof.Rows.lo1 c∈sm)
noncomputable def SI (i j k:Nat):Prop:=(i<j/\j<k)\/(j<k/\k<i)\/(k<i/\i<j)
noncomputable instance (i j k:Nat):Decidable (SI i j k):=by unfold SI;infer_instance
theorem wJ {a b:List Nat} (h:a.Perm b) (ha:a.Pairwise (· <= ·)) (hb:b.Pairwise (· <= ·)):a=b:=
 List.Perm.eq_of_pairwise (le:=fun x y=>x<=y) (fun _ _ _ _ h1 h2=>Nat.le_antisymm h1 h2) ha hb h
noncomputable def qO (_:PySem.W.Frag):Sp:=fun vs H Q _=> ∃l:List Nat,vs=[.str (S l)]/\(∀c∈l,c<128)/\l.length<64/\ ∀l' H',l'.Perm (l.filter cn)->l'.Pairwise (· <= ·)->ah H H'->Q (.str (S l')) H'
theorem wK {K:PySem.W.Frag} {vs:List V} {H:Hp} {Q:VK} {E:XK} (h:qO K vs H Q E):vs.length=1:=by obtain ⟨c,rfl,_⟩:=h;rfl
noncomputable def nW (_:PySem.W.Frag):Sp:=fun vs H Q _=> ∃y:List Nat,vs=[.str (S y)]/\y.length<64/\ ∀q l' H',H q=none->H' q=some (.lst (bY l'))->l'.Perm (y.filter fun c=>decide (c∈bb))->l'.Pairwise (· <= ·)->ah H H'->Q (.ref q) H'
theorem sV {K:PySem.W.Frag} {vs:List V} {H:Hp} {Q:VK} {E:XK} (h:nW K vs H Q E):vs.length=1:=by obtain ⟨c,rfl,_⟩:=h;rfl
theorem ke {p:Nat->Bool} {l:List Nat} {i c:Nat} (h:l[i]? =some c):(l.take (i+1)).filter p=(l.take i).filter p++if p c=true then [c] else []:=by
 rw[<-take_snoc h,List.filter_append]
 congr 1
 by_cases z:p c=true
 ·rw[if_pos z,List.filter_cons_of_pos z];rfl
 ·rw[if_neg z,List.filter_cons_of_neg z];rfl
theorem yQ {y:List Nat} (h:Yd y):2*(y.filter cn).length=y.length:=by
 have key: ∀p q:Nat->Bool,(∀c∈y,p c=true->q (aU c)=true)->(y.filter p).length<=(y.filter q).length:=fun p q U_=>by
  have hn:((y.filter p).map aU).Nodup:=by
   show ((y.filter p).map aU).Pairwise (· ≠ ·)
   rw[List.pairwise_map]
   refine (h.nd.filter p).imp_of_mem fun {a b} ha hb z e=>z ?_
   exact A4 (h.lt a (List.mem_filter.mp ha).1) (h.lt b (List.mem_filter.mp hb).1) e
  have:=hn.length_le_of_subset (l₂:=y.filter q) fun c hc=>by
   obtain ⟨d,hd,rfl⟩:=List.mem_map.mp hc
   obtain ⟨d1,d2⟩:=List.mem_filter.mp hd
   exact List.mem_filter.mpr ⟨h.cl d d1,U_ d d1 d2⟩
  rwa [List.length_map]at this
 have k1:=key cn (fun c=>!cn c) fun c hc z=>by
  rw[hJ (h.lt c hc)]at z
  have hs:=of_decide_eq_true z
  rw[(cT _ (bF c hs).2.2).1];rfl
 have k2:=key (fun c=>!cn c) cn fun c hc z=>by
  rcases h.lt c hc with q | q
  ·rw[(bF c q).1]at z;cases z
  ·exact (bF _ (cT c q).2.2.2).1
 have k3:(y.filter cn).length+(y.filter fun c=>!cn c).length=y.length:=by
  clear k1 k2 key h
  induction y with
  | nil=>rfl
  | cons a r ih=>
   cases hq:cn a
   ·rw[List.filter_cons_of_neg (by simp[hq]),List.filter_cons_of_pos (by simp[hq]),List.length_cons,List.length_cons];omega
   ·rw[List.filter_cons_of_pos hq,List.filter_cons_of_neg (by simp[hq]),List.length_cons,List.length_cons];omega
 omega
noncomputable def aD (y:List Nat):List Nat:=(y.filter cn).mergeSort fun a b=>decide (a<=b)
theorem cW (y:List Nat):(aD y).Perm (y.filter cn):=List.mergeSort_perm _ _
theorem qP (y:List Nat):(aD y).Pairwise (· <= ·):=
 (List.pairwise_mergeSort (le:=fun a b=>decide (a<=b)) (fun a b c h1 h2=>decide_eq_true (Nat.le_trans (of_decide_eq_true h1) (of_decide_eq_true h2))) (fun a b=>by
  rcases Nat.le_total a b with z | z
  ·rw[decide_eq_true z];rfl
  ·rw[decide_eq_true z,Bool.or_true]) (y.filter cn)).imp fun z=>of_decide_eq_true z
theorem hR {y l:List Nat} (h:l.Perm (y.filter cn)) (p:l.Pairwise (· <= ·)):l=aD y:=wJ (h.trans (cW y).symm) p (qP y)
theorem lP {y:List Nat} (h: ∀c∈y,Lt c):(y.filter fun c=>decide (c∈bb))=y.filter cn:=List.filter_congr fun c hc=>(hJ (h c hc)).symm
theorem yR {y:List Nat} (h:Yd y) {e:Nat} (he:e∈y):PyProof.Rows.lo1 e∈aD y:=by
 refine (cW y).mem_iff.mpr (List.mem_filter.mpr ?_)
 rcases h.lt e he with z | z
 ·rw[(bF e z).2.1];exact ⟨he,(bF e z).1⟩
 ·rw[(cT e z).2.1];exact ⟨h.cl e he,(bF _ (cT e z).2.2.2).1⟩
theorem eY {y:List Nat} (h:Yd y):2*(aD y).length=y.length:=by rw[(cW y).length_eq];exact yQ h
structure Pr where
 t:Addr
 c:Nat
 i:Nat
noncomputable def bR (ps:List Pr):List V:=ps.map fun p=>V.ref p.t
theorem aZ (ps:List Pr):(bR ps).length=ps.length:=by unfold bR;rw[List.length_map]
theorem uO (a b:List Pr):bR a++bR b=bR (a++b):=by unfold bR;rw[List.map_append]
theorem gU (a:List Pr) (p:Pr):bR a++[V.ref p.t]=bR (a++[p]):=by unfold bR;rw[List.map_append];rfl
theorem yS {ps:List Pr} {i:Nat} {x:V} (h:(bR ps)[i]? =some x): ∃p,ps[i]? =some p/\x=V.ref p.t:=by
 unfold bR at h
 rw[List.getElem?_map]at h
 cases e:ps[i]? with
 | none=>rw[e]at h;cases h
 | some p=>rw[e]at h;cases h;exact ⟨p,rfl,rfl⟩
structure cU (H:Hp) (p:Pr):Prop where
 tp:H p.t=some (.tup [.int p.c, .int p.i])
 cz:p.c<1000
 iz:p.i<1000
theorem cU.same {H H':Hp} {p:Pr} (h:cU H p) (s:ah H H'):cU H' p:=⟨s _ _ h.tp,h.cz,h.iz⟩
structure Od where
 o:Addr
 ps:List Pr
structure fZ (H:Hp) (o:Od):Prop where
 tp:H o.o=some (.tup (bR o.ps))
 pr: ∀p∈o.ps,cU H p
 fw:o.ps.length<=100
theorem fZ.same {H H':Hp} {o:Od} (h:fZ H o) (s:ah H H'):fZ H' o:=⟨s _ _ h.tp,fun p hp=>(h.pr p hp).same s,h.fw⟩
noncomputable def mV (os:List Od):List V:=os.map fun o=>V.ref o.o
theorem pw (os:List Od):(mV os).length=os.length:=by unfold mV;rw[List.length_map]
theorem qQ (a:List Od) (p:Od):mV a++[V.ref p.o]=mV (a++[p]):=by unfold mV;rw[List.map_append];rfl
theorem lQ {os:List Od} {i:Nat} {o:Od} (h:os[i]? =some o):(mV os)[i]? =some (V.ref o.o):=by unfold mV;rw[List.getElem?_map,h];rfl
structure f_ (H:Hp) (dr:Addr) (ws:List (List Nat)) (os:List Od):Prop where
 ex: ∃wt ot,H dr=some (.tup [.ref wt, .ref ot])/\H wt=some (.tup (bX ws))/\H ot=some (.tup (mV os))
 od: ∀o∈os,fZ H o
theorem f_.same {H H':Hp} {dr:Addr} {ws:List (List Nat)} {os:List Od} (h:f_ H dr ws os) (s:ah H H'):f_ H' dr ws os:=by
 obtain ⟨⟨wt,ot,h1,h2,h3⟩,g⟩:=h
 exact ⟨⟨wt,ot,s _ _ h1,s _ _ h2,s _ _ h3⟩,fun o ho=>(g o ho).same s⟩
structure Pt where
 t:Addr
 c:Nat
 i:Nat
 e:Nat
noncomputable def Pt.is (p:Pt):Nat×Nat×Nat:=(p.c,p.i,p.e)
structure Va (H:Hp) (p:Pt):Prop where
 tp:H p.t=some (.tup [.int p.c, .int p.i, .str (S [p.e])])
 cz:p.c<1000
 iz:p.i<1000
 ez:p.e<128
noncomputable def yT (K:PySem.W.Frag) (H:Hp) (x:V) (ys:List V):Prop:=(∃p,x= .ref p/\(aT K H p ys\/aW K H p ys))\/ ∃l:List Nat,x= .str (S l)/\ys=bY l
noncomputable def nX (K:PySem.W.Frag):Sp:=fun vs H Q _=> ∃(b:Addr) (x:V) (ys:List V),vs=[.ref b,x]/\bK H b/\yT K H x ys/\ys.length<=1000/\ ∀q SJ H',H q=none->q≠b->H' q=some (.lst SJ)->SJ.Perm ys->bK H' b->aI b H H'->Q (.ref q) H'
theorem sW {K:PySem.W.Frag} {vs:List V} {H:Hp} {Q:VK} {E:XK} (h:nX K vs H Q E):vs.length=2:=by obtain ⟨c,_,_,rfl,_⟩:=h;rfl
theorem sX {α β:Type} {f:α->β} {ys zs:List β} (h:ys.Perm zs): ∀l:List α,zs=l.map f-> ∃l':List α,ys=l'.map f/\l'.Perm l:=by
 induction h with
 | nil=>intro l e;cases l with
  | nil=>exact ⟨[],rfl,List.Perm.refl _⟩
  | cons a l=>cases e
 | cons x h ih=>
  intro l e
  cases l with
  | nil=>cases e
  | cons a l=>
   injection e with e1 e2
   obtain ⟨l',g1,g2⟩:=ih l e2
   exact ⟨a::l',by rw[g1,e1];rfl,g2.cons a⟩
 | swap x y t=>
  intro l e
  cases l with
  | nil=>cases e
  | cons a l=>
   cases l with
   | nil=>cases e
   | cons b l=>
    injection e with e1 e2
    injection e2 with e2 e3
    exact ⟨b::a::l,by rw[e1,e2,e3];rfl,List.Perm.swap a b l⟩
 | trans h1 h2 i1 i2=>
  intro l e
  obtain ⟨l1,g1,g2⟩:=i2 l e
  obtain ⟨l2,g3,g4⟩:=i1 l1 g1
  exact ⟨l2,g3,g4.trans g2⟩
noncomputable def Pr.pair (p:Pr):Nat×Nat:=(p.c,p.i)
noncomputable def rG (band l:Nat):Bool:=decide (l=band)||decide (l=aU band)
noncomputable def ef (band c:Nat) (w:List Nat) (n:Nat):List (Nat×Nat):=((List.range n).filter fun i=>rG band (w.getD i 0)).map fun i=>(c,i)
noncomputable def bz (band:Nat) (ws:List (List Nat)) (n:Nat):List (Nat×Nat):=(List.range n).flatMap fun c=>ef band c (ws.getD c []) (ws.getD c []).length
theorem lR {band c i l:Nat} {w:List Nat} (h:w[i]? =some l):ef band c w (i+1)=ef band c w i++if rG band l=true then [(c,i)] else []:=by
 have e:w.getD i 0=l:=by rw[List.getD_eq_getElem?_getD,h];rfl
 unfold ef
 rw[List.range_succ,List.filter_append,List.map_append]
 congr 1
 by_cases z:rG band l=true
 ·rw[if_pos z,List.filter_cons_of_pos (by rw[e];exact z)];rfl
 ·rw[if_neg z,List.filter_cons_of_neg (by rw[e];exact z)];rfl
theorem fe {band i:Nat} {ws:List (List Nat)} {w:List Nat} (h:ws[i]? =some w):bz band ws (i+1)=bz band ws i++ef band i w w.length:=by
 have e:ws.getD i []=w:=by rw[List.getD_eq_getElem?_getD,h];rfl
 unfold bz
 rw[List.range_succ,List.flatMap_append]
 congr 1
 rw[List.flatMap_cons,List.flatMap_nil,List.append_nil,e]
theorem wL (band c:Nat) (w:List Nat) (n:Nat):(ef band c w n).length<=n:=by
 unfold ef
 rw[List.length_map]
 exact Nat.le_trans (List.length_filter_le _ _) (by rw[List.length_range];exact Nat.le_refl _)
structure pA (y:List Nat) (ws:List (List Nat)):Prop where
 jQ:ws.length<=4
 all: ∀w∈ws,(∀c∈w,c∈y)/\w.length<=12
noncomputable def sY (y:List Nat) (ws:List (List Nat)) (os:List Od):Prop:=os.length=(aD y).length/\ ∀(j:Nat) (o:Od) (b:Nat),os[j]? =some o->(aD y)[j]? =some b->(o.ps.map Pr.pair).Perm (bz b ws ws.length)
noncomputable def kf (_:PySem.W.Frag):Sp:=fun vs H Q _=> ∃(b:Addr) (y:List Nat) (wt:Addr) (ws:List (List Nat)),vs=[.ref b, .str (S y), .ref wt]/\bK H b/\Yd y/\y.length<=8/\wt≠b/\H wt=some (.tup (bX ws))/\pA y ws/\ ∀(dr:Addr) (os:List Od) (H':Hp),f_ H' dr ws os->sY y ws os->bK H' b->aI b H H'->Q (.ref dr) H'
theorem pB {K:PySem.W.Frag} {vs:List V} {H:Hp} {Q:VK} {E:XK} (h:kf K vs H Q E):vs.length=3:=by obtain ⟨c,_,_,_,rfl,_⟩:=h;rfl
theorem aF.box {H H':Hp} {b:Addr} (h:bK H b) (s:aI b H H'):aF H H':=fun c xs e=>s c _ e fun z=>by
 obtain ⟨x,y,g⟩:=h
 rw[z,g]at e;cases e
theorem cU.ts {H H':Hp} {p:Pr} (h:cU H p) (s:aF H H'):cU H' p:=⟨s _ _ h.tp,h.cz,h.iz⟩
theorem fZ.ts {H H':Hp} {o:Od} (h:fZ H o) (s:aF H H'):fZ H' o:=⟨s _ _ h.tp,fun p hp=>(h.pr p hp).ts s,h.fw⟩
theorem sZ {band l:Nat} (hb:band∈bb) (hl:Lt l):decide (PyProof.Rows.lo1 l=band)=rG band l:=by
 unfold rG
 rcases hl with h | h
 ·have e:=(bF l h).2.1
  have n:l≠aU band:=fun z=>nV _ (bF band hb).2.2 (z▸h)
  rw[e,decide_eq_false n,Bool.or_false]
 ·have e:=(cT l h).2.1
  have n:l≠band:=fun z=>nV l h (z▸hb)
  rw[e,decide_eq_false n,Bool.false_or]
  refine decide_eq_decide.mpr ⟨fun z=>by rw[<-z,bo (.inr h)],fun z=>by rw[z,bo (.inl hb)]⟩
theorem s_ {band:Nat} {ws:List (List Nat)}: ∀{n:Nat}, ∀p∈bz band ws n,p.1<n:=fun {n} p hp=>by
 unfold bz at hp
 obtain ⟨c,hc,h⟩:=List.mem_flatMap.mp hp
 unfold ef at h
 obtain ⟨i,_,rfl⟩:=List.mem_map.mp h
 exact List.mem_range.mp hc
noncomputable def pz (p:Nat×Nat):Int×Int:=(p.1,p.2)
theorem tf (band c:Nat) (w:List Nat): ∀n,(ef band c w n).Pairwise fun x y=>bE (pz y) (pz x)=false:=fun n=>by
 unfold ef
 rw[List.pairwise_map]
 refine (List.Pairwise.filter _ List.pairwise_lt_range).imp fun {i j} h=>?_
 unfold bE pz
 simp
 omega
theorem kg (band:Nat) (ws:List (List Nat)): ∀n,n<=ws.length->(bz band ws n).Pairwise fun x y=>bE (pz y) (pz x)=false
 | 0,_=>List.Pairwise.nil
 | n+1,h=>by
  rw[fe (List.getElem?_eq_getElem (by omega:n<ws.length)),List.pairwise_append]
  refine ⟨kg band ws n (by omega),tf _ _ _ _,fun x hx y hy=>?_⟩
  have h1:=s_ x hx
  unfold ef at hy
  obtain ⟨i,_,rfl⟩:=List.mem_map.mp hy
  unfold bE pz
  simp
  omega
theorem iP (band:Nat) {ws:List (List Nat)} (hw: ∀w∈ws,w.length<=12): ∀n,n<=ws.length->(bz band ws n).length<=12*n
 | 0,_=>Nat.le_refl _
 | n+1,h=>by
  have hn:n<ws.length:=by omega
  rw[fe (List.getElem?_eq_getElem hn),List.length_append]
  have h1:=iP band hw n (by omega)
  have h2:=wL band n ws[n] ws[n].length
  have h3:=hw _ (List.getElem_mem hn)
  omega
theorem yU {K:PySem.W.Frag} {H:Hp}: ∀{ps:List Pr},(∀p∈ps,cU H p)->oZ K H (bR ps) ((ps.map Pr.pair).map pz)
 | [],_=>trivial
 | p::ps,h=>⟨⟨p.t,rfl,aW.of (h p List.mem_cons_self).tp⟩,yU fun q hq=>h q (List.mem_cons_of_mem _ hq)⟩
noncomputable def lS (p:Nat×Nat):PyData:= .tuple [.int p.1, .int p.2]
theorem fE {K:PySem.W.Frag} {H:Hp}: ∀{ps:List Pr},(∀p∈ps,cU H p)->fz K H (bR ps) ((ps.map Pr.pair).map lS)
 | [],_=> .nil
 | p::ps,h=> .cons (.tup (aW.of (h p List.mem_cons_self).tp) (.cons (.int _) (.cons (.int _) .nil))) (fE fun q hq=>h q (List.mem_cons_of_mem _ hq))
theorem hU {H:Hp} {ps:List Pr} (h: ∀p∈ps,cU H p) {k:Nat}:mR (k+1) (90*ps.length) ((ps.map Pr.pair).map lS):=by
 refine .all (a:=89) (fun x hx=>?_) (by rw[List.length_map,List.length_map];omega)
 obtain ⟨q,hq,rfl⟩:=List.mem_map.mp hx
 obtain ⟨p,hp,rfl⟩:=List.mem_map.mp hq
 have ok:=h p hp
 have b1:(p.c:Int).natAbs<10 ^ 12:=by have:=ok.cz;omega
 have b2:(p.i:Int).natAbs<10 ^ 12:=by have:=ok.iz;omega
 exact .tup (.cons (a:=40) (b:=41) (.int b1 (by decide)) (.cons (a:=40) (b:=0) (.int b2 (by decide)) .nil (by decide)) (by decide))
theorem lT: ∀ns:List (Nat×Nat),PyData.hasDictAll (ns.map lS)=false
 | []=>rfl
 | n::ns=>by show (PyData.hasDict (lS n)||PyData.hasDictAll (ns.map lS))=false;rw[lT ns];rfl
noncomputable def JT (o:Od):PyData:= .tuple ((o.ps.map Pr.pair).map lS)
theorem qR {K:PySem.W.Frag} {H:Hp}: ∀{os:List Od},(∀o∈os,fZ H o)->fz K H (mV os) (os.map JT)
 | [],_=> .nil
 | o::os,h=> .cons (.tup (aW.of (h o List.mem_cons_self).tp) (fE (h o List.mem_cons_self).pr)) (qR fun q hq=>h q (List.mem_cons_of_mem _ hq))
noncomputable def Mg (y:List Nat) (ws:List (List Nat)) (os:List Od):Prop:=os.map (fun o=>o.ps.map Pr.pair)=(aD y).map fun b=>bz b ws ws.length
theorem Hr {H:Hp} {ws:List (List Nat)} {os:List Od} (hw: ∀w∈ws,(∀c∈w,c<128)/\w.length<=12) (hf:ws.length<=4) (ho: ∀o∈os,fZ H o) (hz:os.length<=4):xq 40 100000 (.tuple [.tuple (ph ws), .tuple (os.map JT)]):=by
 have s1:xq 39 60 (.tuple (ph ws)):= .tup (.all (a:=12) (fun x hx=>by
  obtain ⟨w,JU,rfl⟩:=List.mem_map.mp hx
  exact .str (hw w JU).1 (hw w JU).2) (by unfold ph;rw[List.length_map];omega))
 have s2:xq 39 40000 (.tuple (os.map JT)):= .tup (.all (a:=9000) (fun x hx=>by
  obtain ⟨o,iC,rfl⟩:=List.mem_map.mp hx
  have k:=ho o iC
  have m:=hU (k:=36) k.pr
  exact .tup ⟨m.lv,m.sh,m.ly,m.dp,Nat.le_trans m.wt (by have:=k.fw;omega)⟩) (by rw[List.length_map];omega))
 exact .tup (.cons (a:=60) (b:=40001) s1 (.cons (a:=40000) (b:=0) s2 .nil (by decide)) (by decide))
noncomputable def gm (_:PySem.W.Frag):Sp:=fun vs H Q _=> ∃(y w:List Nat),vs=[.str (S y), .str (S w)]/\(∀c∈w,c∈y)/\ ∀H',ah H H'->Q .bW H'
theorem jV {K:PySem.W.Frag} {vs:List V} {H:Hp} {Q:VK} {E:XK} (h:gm K vs H Q E):vs.length=2:=by obtain ⟨c,_,rfl,_⟩:=h;rfl
noncomputable def iw (_:PySem.W.Frag):Sp:=fun vs H Q _=> ∃(wt:Addr) (ws:List (List Nat)) (band:Nat),vs=[.ref wt, .str (S [band])]/\H wt=some (.tup (bX ws))/\ws.length<=4/\(∀w∈ws,(∀c∈w,Lt c)/\w.length<=12)/\band∈bb/\ ∀(q:Addr) (ps:List Pr) (H':Hp),H q=none->H' q=some (.lst (bR ps))->(∀p∈ps,cU H' p)->ps.map Pr.pair=bz band ws ws.length->ah H H'->Q (.ref q) H'
theorem lU {K:PySem.W.Frag} {vs:List V} {H:Hp} {Q:VK} {E:XK} (h:iw K vs H Q E):vs.length=2:=by obtain ⟨c,_,_,rfl,_⟩:=h;rfl
noncomputable def iy (_:PySem.W.Frag):Sp:=fun vs H Q _=> ∃(y:List Nat) (wt:Addr) (ws:List (List Nat)),vs=[.str (S y), .ref wt]/\H wt=some (.tup (bX ws))/\(∀w∈ws, ∀c∈w,c∈y)/\ ∀H',ah H H'->Q .bW H'
theorem lV {K:PySem.W.Frag} {vs:List V} {H:Hp} {Q:VK} {E:XK} (h:iy K vs H Q E):vs.length=2:=by obtain ⟨c,_,_,rfl,_⟩:=h;rfl
theorem qT {y:List Nat} (h:Yd y) {b:Nat} (hb:b∈aD y):b∈bb:=by
 obtain ⟨h1,h2⟩:=List.mem_filter.mp ((cW y).mem_iff.mp hb)
 rw[hJ (h.lt b h1)]at h2
 exact of_decide_eq_true h2
structure Ask where
 t:Addr
 u:List Nat
 wt:Addr
 ws:List (List Nat)
 ot:Addr
 os:List Od
structure SK (H:Hp) (k:Ask):Prop where
 tp:H k.t=some (.tup [.str (S k.u), .ref k.wt, .ref k.ot])
 yd:Yd k.u
 yz:k.u.length<=8
 wo:pA k.u k.ws
 hw:H k.wt=some (.tup (bX k.ws))
 ho:H k.ot=some (.tup (mV k.os))
 od: ∀o∈k.os,fZ H o
 ex:Mg k.u k.ws k.os
noncomputable def kS (l:List Nat):Key:=Sum.inr (S l)
theorem pE {a b:List Nat} (h:kS a=kS b):a=b:=by rw[<-dY a,Sum.inr.inj h,dY]
structure iQ (H:Hp) (o:Od):Prop where
 tp:H o.o=some (.lst (bR o.ps))
 pr: ∀p∈o.ps,cU H p
 fw:o.ps.length<=100
noncomputable def dh (bs:List Nat) (os:List Od):List (Key×V):=(bs.zip os).map fun x=>(kS [x.1],V.ref x.2.o)
structure bL (H:Hp) (d:Addr) (bs:List Nat) (os:List Od):Prop where
 dk:H d=some (.dK (dh bs os))
 ln:os.length=bs.length
 nd:(os.map Od.o).Nodup
 ok: ∀o∈os,iQ H o
theorem lW {bs:List Nat} {os:List Od} (h:os.length=bs.length):(dh bs os).length=bs.length:=by unfold dh;rw[List.length_map,List.length_zip];omega
theorem nY: ∀{bs:List Nat} {os:List Od},os.length=bs.length->(dh bs os).map (fun kv=>kV kv.1)=bY bs
 | [],[],_=>rfl
 | b::bs,o::os,h=>by
  show kV (kS [b])::(dh bs os).map (fun kv=>kV kv.1)=V.str (S [b])::bY bs
  rw[nY (by simpa using h)]
  rfl
theorem dN: ∀{bs:List Nat} {os:List Od} {j:Nat} {b:Nat} {o:Od},bs.Nodup->bs[j]? =some b->os[j]? =some o->gu (dh bs os) (kS [b])=some (.ref o.o)
 | b'::bs,o'::os,0,b,o,_,hb,ho=>by
  cases hb;cases ho
  exact ji rfl
 | b'::bs,o'::os,j+1,b,o,nd,hb,ho=>by
  obtain ⟨n1,n2⟩:=List.nodup_cons.mp nd
  have jG:kS [b']≠kS [b]:=fun z=>n1 (by
   have:=List.mem_of_getElem? (show bs[j]? =some b by simpa using hb)
   rw[(List.cons.inj (pE z)).1];exact this)
  show gu ((kS [b'],V.ref o'.o)::dh bs os) (kS [b])=_
  rw[gQ jG]
  exact dN n2 (by simpa using hb) (by simpa using ho)
theorem nZ: ∀{bs:List Nat} {os:List Od} {b:Nat},b∉bs->gu (dh bs os) (kS [b])=none
 | [],_,_,_=>rfl
 | _::_,[],_,_=>rfl
 | b'::bs,o'::os,b,h=>by
  show gu ((kS [b'],V.ref o'.o)::dh bs os) (kS [b])=none
  rw[gQ fun z=>h (by rw[<-(List.cons.inj (pE z)).1];exact List.mem_cons_self)]
  exact nZ fun z=>h (List.mem_cons_of_mem _ z)
theorem yV: ∀{bs:List Nat} {os:List Od} {j:Nat} {b:Nat} {o':Od},bs.Nodup->os.length=bs.length->bs[j]? =some b->putK (dh bs os) (kS [b]) (.ref o'.o)=dh bs (os.set j o'):=by
 intro bs os j b o' nd hl hb
 have hj:j<os.length:=by rw[hl];exact (List.getElem?_eq_some_iff.mp hb).1
 have hs:(gu (dh bs os) (kS [b])).isSome=true:=by rw[dN nd hb (List.getElem?_eq_getElem hj)];rfl
 unfold putK
 rw[jj,if_pos hs]
 clear hs
 induction bs generalizing os j with
 | nil=>simp at hb
 | cons b0 bs ih=>
  cases os with
  | nil=>simp at hj
  | cons o0 os=>
   obtain ⟨n1,n2⟩:=List.nodup_cons.mp nd
   cases j with
   | zero=>
    have LD:b0=b:=by simpa using hb
    subst LD
    show (if kS [b0]=kS [b0] then (kS [b0],V.ref o'.o) else _)::(dh bs os).map _=(kS [b0],V.ref o'.o)::dh bs os
    rw[if_pos rfl]
    congr 1
    have: ∀kv∈dh bs os,(if kv.1=kS [b0] then (kv.1,V.ref o'.o) else kv)=kv:=fun kv JV=>by
     unfold dh at JV
     obtain ⟨x,hx,rfl⟩:=List.mem_map.mp JV
     rw[if_neg]
     intro z
     have:=(List.of_mem_zip (show (x.1,x.2)∈bs.zip os from hx)).1
     rw[(List.cons.inj (pE z)).1]at this
     exact n1 this
    rw[List.map_congr_left this,List.map_id']
   | succ j=>
    have B9:bs[j]? =some b:=by simpa using hb
    have jG:kS [b0]≠kS [b]:=fun z=>n1 (by rw[(List.cons.inj (pE z)).1];exact List.mem_of_getElem? B9)
    show (if kS [b0]=kS [b] then _ else (kS [b0],V.ref o0.o))::(dh bs os).map _=(kS [b0],V.ref o0.o)::dh bs (os.set j o')
    rw[if_neg jG]
    congr 1
    exact ih n2 (by simpa using hl) B9 (by simpa using hj)
noncomputable def il (c:Nat) (f:Nat->Option Nat) (p:Nat×Nat):Option (Nat×Nat):=if p.1=c then (f p.2).map fun j=>(c,j) else some p
noncomputable def cL (c:Nat) (f:Nat->Option Nat) (ps:List (Nat×Nat)):List (Nat×Nat):=ps.filterMap (il c f)
noncomputable def bg (o:Od):List (Nat×Nat):=o.ps.map Pr.pair
noncomputable def kh (_:PySem.W.Frag):Sp:=fun vs H Q _=> ∃(d:Addr) (c:Nat) (pp:Addr) (bs:List Nat) (os:List Od) (xs:List V) (f:Nat->Option Nat),vs=[.ref d, .int c, .ref pp]/\bL H d bs os/\bs.Nodup/\bs.length<=100/\c<1000/\H pp=some (.lst xs)/\
 (∀o∈os, ∀p∈o.ps,p.c=c->xs[p.i]? =some (match f p.i with | none=>V.bW | some j=>V.int (j:Nat)))/\(∀o∈os, ∀p∈o.ps,p.c=c-> ∀j,f p.i=some j->j<1000)/\
 ∀(os':List Od) (H':Hp),bL H' d bs os'->os'.map bg=os.map (fun o=>cL c f (bg o))->(∀o∈os',H o.o=none)->aI d H H'->Q .bW H'
theorem pF {K:PySem.W.Frag} {vs:List V} {H:Hp} {Q:VK} {E:XK} (h:kh K vs H Q E):vs.length=3:=by obtain ⟨_,_,_,_,_,_,_,rfl,_⟩:=h;rfl
theorem iQ.Hs {H H':Hp} {d:Addr} {o:Od} (h:iQ H o) (s:aI d H H') (hd:o.o≠d) (t:aF H H'):iQ H' o:=⟨s _ _ h.tp hd,fun p hp=>(h.pr p hp).ts t,h.fw⟩
theorem iQ.same {H H':Hp} {o:Od} (h:iQ H o) (s:ah H H'):iQ H' o:=⟨s _ _ h.tp,fun p hp=>(h.pr p hp).same s,h.fw⟩
theorem bL.same {H H':Hp} {d:Addr} {bs:List Nat} {os:List Od} (h:bL H d bs os) (s:ah H H'):bL H' d bs os:=⟨s _ _ h.dk,h.ln,h.nd,fun o ho=>(h.ok o ho).same s⟩
theorem bL.ne {H:Hp} {d:Addr} {bs:List Nat} {os:List Od} (h:bL H d bs os) {o:Od} (ho:o∈os):o.o≠d:=fun z=>by
 have:=(h.ok o ho).tp
 rw[z,h.dk]at this
 cases this
theorem wM {l:List Addr} (h:l.Nodup): ∀{j:Nat} {a:Addr},a∉l->(l.set j a).Nodup:=by
 induction l with
 | nil=>intro j a _;exact h
 | cons x l ih=>
  obtain ⟨n1,n2⟩:=List.nodup_cons.mp h
  intro j a ha
  cases j with
  | zero=>exact List.nodup_cons.mpr ⟨fun z=>ha (List.mem_cons_of_mem _ z),n2⟩
  | succ j=>
   refine List.nodup_cons.mpr ⟨fun z=>?_,ih n2 fun z=>ha (List.mem_cons_of_mem _ z)⟩
   rcases List.mem_or_eq_of_mem_set z with g | g
   ·exact n1 g
   ·exact ha (by rw[<-g];exact List.mem_cons_self)
theorem bL.put {H:Hp} {d:Addr} {bs:List Nat} {os:List Od} {j:Nat} {b:Nat} {o':Od} (h:bL H d bs os) (nd:bs.Nodup) (hb:bs[j]? =some b) (ho:iQ H o') (hd:o'.o≠d) (hn: ∀o∈os,o.o≠o'.o):
  bL (upd H d (.dK (putK (dh bs os) (kS [b]) (.ref o'.o)))) d bs (os.set j o'):=by
 have Vb:=h.dk
 have up: ∀{x:Od},iQ H x->x.o≠d->iQ (upd H d (.dK (putK (dh bs os) (kS [b]) (.ref o'.o)))) x:=fun {x} hx jG=>
  ⟨by rw[aq jG];exact hx.tp,fun p hp=>⟨by rw[aq (fun z=>by have:=(hx.pr p hp).tp;rw[z,Vb]at this;cases this)];exact (hx.pr p hp).tp,(hx.pr p hp).cz,(hx.pr p hp).iz⟩,hx.fw⟩
 refine ⟨by rw[ae,yV nd h.ln hb],by rw[List.length_set];exact h.ln,?_,fun x hx=>?_⟩
 ·rw[List.map_set]
  exact wM h.nd fun z=>by
   obtain ⟨o,zR,Dq⟩:=List.mem_map.mp z
   exact hn o zR Dq
 ·rcases List.mem_or_eq_of_mem_set hx with g | g
  ·exact up (h.ok x g) (h.ne g)
  ·rw[g];exact up ho hd
theorem set_drop {α:Type} (l:List α) (i:Nat) (a:α):(l.set i a).drop (i+1)=l.drop (i+1):=by
 induction l generalizing i with
 | nil=>rfl
 | cons x l ih=>cases i with
  | zero=>rfl
  | succ i=>exact ih i
theorem qU {α:Type} (l:List α) (i:Nat) (a:α) (h:i<l.length):(l.set i a).take (i+1)=l.take i++[a]:=by
 induction l generalizing i with
 | nil=>simp at h
 | cons x l ih=>cases i with
  | zero=>rfl
  | succ i=>show x::(l.set i a).take (i+1)=x::(l.take i++[a]);rw[ih i (by simpa using h)]
theorem wN (c:Nat) (f:Nat->Option Nat) (l:List (Nat×Nat)) (p:Nat×Nat):cL c f (l++[p])=cL c f l++(il c f p).toList:=by
 unfold cL
 rw[List.filterMap_append]
 cases h:il c f p<;>simp[List.filterMap_cons,h]
noncomputable def yW (a b:Addr) (H H':Hp):Prop:= ∀x u,H x=some u->x≠a->x≠b->H' x=some u
noncomputable def swapAt (n:Nat) (l:List Pr):List Pr:=match l[n]?, l[n+1]? with | some p,some q=>(l.set n q).set (n+1) p | _,_=>l
noncomputable def outF (k i:Nat):Option Nat:=if i<k then some i else if i<k+2 then none else some (i - 2)
noncomputable def kx (k i:Nat):Option Nat:=if i<k then some i else some (i+2)
noncomputable def gn (n i:Nat):Option Nat:=if i=0 then some (n - 1) else some (i - 1)
noncomputable def fV (o:Option Nat):V:=match o with | none=>V.bW | some j=>V.int (j:Nat)
structure jr (H:Hp) (d wl:Addr) (bs:List Nat) (os:List Od) (ws:List (List Nat)):Prop where
 od:bL H d bs os
 wd:H wl=some (.lst (bX ws))
 nd:bs.Nodup
 bl:bs.length<=100
 ne: ∀o∈os,o.o≠wl
 pz: ∀o∈os, ∀p∈o.ps, ∃w,ws[p.c]? =some w/\p.i<w.length
 wz:ws.length<=4
 wo: ∀w∈ws,(∀c∈w,Lt c)/\w.length<=12
noncomputable def lX (_:PySem.W.Frag):Sp:=fun vs H Q _=> ∃(d:Addr) (bs:List Nat) (os:List Od) (b j n:Nat) (o:Od),vs=[.ref d, .str (S [b]), .int n]/\bL H d bs os/\bs.Nodup/\bs.length<=100/\bs[j]? =some b/\os[j]? =some o/\n+1<o.ps.length/\
 ∀H',bL H' d bs (os.set j ⟨o.o,swapAt n o.ps⟩)->aI o.o H H'->Q (.bl true) H'
theorem qV {K:PySem.W.Frag} {vs:List V} {H:Hp} {Q:VK} {E:XK} (h:lX K vs H Q E):vs.length=3:=by obtain ⟨_,_,_,_,_,_,_,rfl,_⟩:=h;rfl
noncomputable def Left (H:Hp) (Q:VK) (d wl:Addr) (bs:List Nat) (os:List Od) (ws:List (List Nat)) (c:Nat) (w':List Nat) (f:Nat->Option Nat):Prop:=
 ∀(os':List Od) (H':Hp),bL H' d bs os'->os'.map bg=os.map (fun o=>cL c f (bg o))->H' wl=some (.lst (bX (ws.set c w')))->(∀o∈os',H o.o=none)->yW d wl H H'->Q (.bl true) H'
noncomputable def n0 (_:PySem.W.Frag):Sp:=fun vs H Q _=> ∃(d wl:Addr) (bs:List Nat) (os:List Od) (ws:List (List Nat)) (c k:Nat) (w:List Nat) (x:Nat),vs=[.ref wl, .ref d, .int c, .int k]/\jr H d wl bs os ws/\ws[c]? =some w/\w[k]? =some x/\w[k+1]? =some (aU x)/\
 Left H Q d wl bs os ws c (w.take k++w.drop (k+2)) (outF k)
theorem tm {K:PySem.W.Frag} {vs:List V} {H:Hp} {Q:VK} {E:XK} (h:n0 K vs H Q E):vs.length=4:=by obtain ⟨_,_,_,_,_,_,_,_,_,rfl,_⟩:=h;rfl
noncomputable def lY (_:PySem.W.Frag):Sp:=fun vs H Q _=> ∃(d wl:Addr) (bs:List Nat) (os:List Od) (ws:List (List Nat)) (c:Nat) (w:List Nat),vs=[.ref wl, .ref d, .int c]/\jr H d wl bs os ws/\ws[c]? =some w/\
 Left H Q d wl bs os ws c (w.drop 1++w.take 1) (gn w.length)
theorem qW {K:PySem.W.Frag} {vs:List V} {H:Hp} {Q:VK} {E:XK} (h:lY K vs H Q E):vs.length=3:=by obtain ⟨_,_,_,_,_,_,_,rfl,_⟩:=h;rfl
theorem uP (ps:List Pr) (n:Nat) (p:Pr):(bR ps).set n (V.ref p.t)=bR (ps.set n p):=by unfold bR;rw[List.map_set]
theorem jr.pl {H:Hp} {d wl:Addr} {bs:List Nat} {os:List Od} {ws:List (List Nat)} (h:jr H d wl bs os ws) {c:Nat} {w:List Nat} (hw:ws[c]? =some w) {xs:List V} {f:Nat->Option Nat} (hx: ∀i,i<w.length->xs[i]? =some (fV (f i))):
  ∀o∈os, ∀p∈o.ps,p.c=c->xs[p.i]? =some (match f p.i with | none=>V.bW | some j=>V.int (j:Nat)):=fun o ho p hp e=>by
 obtain ⟨w',h1,h2⟩:=h.pz o ho p hp
 rw[e,hw]at h1
 cases h1
 exact hx _ h2
theorem js {n k:Nat} (h:k<n):xN n (k:Int)=some k:=by
 unfold xN
 rw[if_pos (by omega)]
 simp[h]
theorem qX (bs:List Nat) (os:List Od):dh bs os=(bs.zip (os.map Od.o)).map fun x=>(kS [x.1],V.ref x.2):=by
 unfold dh
 rw[List.zip_map_right,List.map_map]
 rfl
theorem set_same {α:Type}: ∀{l:List α} {j:Nat} {a:α},l[j]? =some a->l.set j a=l
 | [],_,_,_=>rfl
 | x::l,0,a,h=>by cases h;rfl
 | x::l,j+1,a,h=>by show x::l.set j a=x::l;rw[set_same (by simpa using h)]
theorem bL.mut {H:Hp} {d:Addr} {bs:List Nat} {os:List Od} {j:Nat} {o:Od} {tq:List Pr} (h:bL H d bs os) (ho:os[j]? =some o) (hp: ∀p∈tq,cU H p) (hl:tq.length<=100):
  bL (upd H o.o (.lst (bR tq))) d bs (os.set j ⟨o.o,tq⟩):=by
 have iR:=List.mem_of_getElem? ho
 have tu:=h.ok o iR
 have em:(os.set j ⟨o.o,tq⟩).map Od.o=os.map Od.o:=by
  rw[List.map_set]
  exact set_same (by rw[List.getElem?_map,ho];rfl)
 have tU:aF H (upd H o.o (.lst (bR tq))):=aF.fR tu.tp
 refine ⟨?_,by rw[List.length_set];exact h.ln,by rw[em];exact h.nd,fun x hx=>?_⟩
 ·rw[aq (Ne.symm (h.ne iR)),h.dk,qX,qX,em]
 ·obtain ⟨i,hi,e⟩:=List.mem_iff_getElem.mp hx
  by_cases z:j=i
  ·subst z
   rw[List.getElem_set_self]at e
   rw[<-e]
   exact ⟨ae,fun p tD=>(hp p tD).ts tU,hl⟩
  ·rw[List.getElem_set_ne z]at e
   rw[List.length_set]at hi
   have DS:x∈os:=by rw[<-e];exact List.getElem_mem hi
   have jG:x.o≠o.o:=fun y=>z (by
    have hj:=(List.getElem?_eq_some_iff.mp ho)
    have h1:(os.map Od.o)[i]'(by rw[List.length_map];exact hi)=(os.map Od.o)[j]'(by rw[List.length_map];exact hj.1):=by
     rw[List.getElem_map,List.getElem_map,e,hj.2];exact y
    have FH:=List.pairwise_iff_getElem.mp h.nd
    rcases Nat.lt_trichotomy i j with g | g | g
    ·exact absurd h1 (FH i j _ _ g)
    ·exact g.symm
    ·exact absurd h1.symm (FH j i _ _ g))
   have Mh:=h.ok x DS
   exact ⟨by rw[aq jG];exact Mh.tp,fun p tD=>(Mh.pr p tD).ts tU,Mh.fw⟩
theorem swap_perm (n:Nat) (l:List Pr):(swapAt n l).Perm l:=by
 unfold swapAt
 cases h0:l[n]? with
 | none=>exact List.Perm.refl _
 | some p=>cases h1:l[n+1]? with
  | none=>exact List.Perm.refl _
  | some q=>
   show ((l.set n q).set (n+1) p).Perm l
   induction l generalizing n with
   | nil=>simp at h0
   | cons x l ih=>
    cases n with
    | zero=>
     cases l with
     | nil=>simp at h1
     | cons y l=>
      cases h0
      have e:y=q:=by simpa using h1
      subst e
      exact List.Perm.swap _ _ l
    | succ n=>exact (ih n (by simpa using h0) (by simpa using h1)).cons x
theorem bL.Em {H:Hp} {d wl:Addr} {bs:List Nat} {os:List Od} {ys zs:List V} (h:bL H d bs os) (jG: ∀o∈os,o.o≠wl) (hw:H wl=some (.lst ys)):bL (upd H wl (.lst zs)) d bs os:=by
 have tU:aF H (upd H wl (.lst zs)):=aF.fR hw
 exact ⟨by rw[aq (fun z=>by rw[<-z,h.dk]at hw;cases hw)];exact h.dk,h.ln,h.nd,fun o ho=>⟨by rw[aq (jG o ho)];exact (h.ok o ho).tp,fun p hp=>((h.ok o ho).pr p hp).ts tU,(h.ok o ho).fw⟩⟩
theorem pG (ws:List (List Nat)) (c:Nat) (w:List Nat):(bX ws).set c (.str (S w))=bX (ws.set c w):=by unfold bX;rw[List.map_set]
theorem uQ (w:List Nat):cut w (some 1) none=w.drop 1:=by have:=cA w 1;rwa [show ((1:Nat):Int)=1 from rfl]at this
theorem qY (w:List Nat):cut w none (some 1)=w.take 1:=by have:=jU w 1;rwa [show ((1:Nat):Int)=1 from rfl]at this
theorem jt {n i:Nat} {a:Int} (h:i<n):((List.range n).map fun (k:Nat)=>V.int (a+(k:Int)))[i]? =some (V.int (a+(i:Int))):=by
 rw[List.getElem?_map,List.getElem?_range h]
 rfl
theorem Bf {n i:Nat} (h:i<n):([V.int ((n:Int) - 1)]++(List.range ((n:Int) - 1).toNat).map fun (k:Nat)=>V.int (0+(k:Int)))[i]? =some (fV (gn n i)):=by
 unfold gn fV
 by_cases z:i=0
 ·subst z
  rw[if_pos rfl]
  show some (V.int ((n:Int) - 1))=some (V.int ((n - 1:Nat):Int))
  congr 2
  omega
 ·rw[if_neg z,List.getElem?_append_right (by simp;omega),List.length_singleton,jt (by omega)]
  congr 2
  omega
theorem qZ {H H3:Hp} {Q:VK} {d wl:Addr} {bs:List Nat} {os:List Od} {ws:List (List Nat)} {c:Nat} {w':List Nat} {f:Nat->Option Nat} (hH:jr H d wl bs os ws) (q:Left H Q d wl bs os ws c w' f) (s:ah (upd H wl (.lst (bX (ws.set c w')))) H3):
  ∀(os':List Od) (H':Hp),bL H' d bs os'->os'.map bg=os.map (fun o=>cL c f (bg o))->(∀o∈os',H3 o.o=none)->aI d H3 H'->Q (.bl true) H':=fun os' H' h1 h2 h3 h4=>by
 have Mi:wl≠d:=fun z=>by have:=hH.wd;rw[z,hH.od.dk]at this;cases this
 refine q os' H' h1 h2 (h4 _ _ (s _ _ ae) Mi) (fun o ho=>?_) fun a u ea za zb=>?_
 ·cases e:H o.o with
  | none=>rfl
  | some u=>
   exfalso
   have hn:=h3 o ho
   by_cases z:o.o=wl
   ·rw[z,s _ _ ae]at hn;cases hn
   ·rw[s _ _ (show upd H wl (.lst (bX (ws.set c w'))) o.o=some u by rw[aq z];exact e)]at hn;cases hn
 ·exact h4 _ _ (s _ _ (by rw[aq zb];exact ea)) za
theorem jr.pb {H:Hp} {d wl:Addr} {bs:List Nat} {os:List Od} {ws:List (List Nat)} (h:jr H d wl bs os ws) {c:Nat} {w:List Nat} (hw:ws[c]? =some w) {f:Nat->Option Nat} (hf: ∀i j,i<w.length->f i=some j->j<1000):
  ∀o∈os, ∀p∈o.ps,p.c=c-> ∀j,f p.i=some j->j<1000:=fun o ho p hp e j hj=>by
 obtain ⟨w',h1,h2⟩:=h.pz o ho p hp
 rw[e,hw]at h1
 cases h1
 exact hf _ _ h2 hj
theorem ju (w:List Nat) (k:Nat):cut w none (some (k:Int))=w.take k:=jU w k
theorem En {n k i:Nat} (hk:k+1<n) (h:i<n):(((List.range ((k:Int)).toNat).map fun (j:Nat)=>V.int (0+(j:Int)))++[V.bW,V.bW]++(List.range ((n:Int) - 2 - (k:Int)).toNat).map fun (j:Nat)=>V.int ((k:Int)+(j:Int)))[i]? =some (fV (outF k i)):=by
 have e1:((k:Int)).toNat=k:=by omega
 have e2:((n:Int) - 2 - (k:Int)).toNat=n - 2 - k:=by omega
 rw[e1,e2]
 unfold outF fV
 by_cases z:i<k
 ·rw[if_pos z,List.getElem?_append_left (by simp;omega),List.getElem?_append_left (by simpa using z),jt z]
  congr 2
  omega
 ·rw[if_neg z]
  by_cases y:i<k+2
  ·rw[if_pos y,List.getElem?_append_left (by simp;omega),List.getElem?_append_right (by simp;omega),List.length_map,List.length_range]
   rcases (by omega:i - k=0\/i - k=1) with g | g<;>rw[g]<;>rfl
  ·have el:(((List.range k).map fun (j:Nat)=>V.int (0+(j:Int)))++[V.bW,V.bW]).length=k+2:=by simp
   rw[if_neg y,List.getElem?_append_right (by omega),el,jt (by omega)]
   congr 2
   omega
theorem Ht {n k i:Nat} (hk:k<=n) (h:i<n):(((List.range ((k:Int)).toNat).map fun (j:Nat)=>V.int (0+(j:Int)))++(List.range ((n:Int)+2 - ((k:Int)+2)).toNat).map fun (j:Nat)=>V.int ((k:Int)+2+(j:Int)))[i]? =some (fV (kx k i)):=by
 have e1:((k:Int)).toNat=k:=by omega
 have e2:((n:Int)+2 - ((k:Int)+2)).toNat=n - k:=by omega
 rw[e1,e2]
 unfold kx fV
 by_cases z:i<k
 ·rw[if_pos z,List.getElem?_append_left (by simpa using z),jt z]
  congr 2
  omega
 ·rw[if_neg z,List.getElem?_append_right (by simp;omega),List.length_map,List.length_range,jt (by omega)]
  congr 2
  omega
theorem tE {H H3 H':Hp} {d wl:Addr} {bs:List Nat} {os os':List Od} {ws:List (List Nat)} {c:Nat} {w':List Nat} (hH:jr H d wl bs os ws) (s:ah (upd H wl (.lst (bX (ws.set c w')))) H3) (h3: ∀o∈os',H3 o.o=none) (h4:aI d H3 H'):
  H' wl=some (.lst (bX (ws.set c w')))/\(∀o∈os',H o.o=none)/\yW d wl H H':=by
 have Mi:wl≠d:=fun z=>by have:=hH.wd;rw[z,hH.od.dk]at this;cases this
 refine ⟨h4 _ _ (s _ _ ae) Mi,fun o ho=>?_,fun a u ea za zb=>h4 _ _ (s _ _ (by rw[aq zb];exact ea)) za⟩
 cases e:H o.o with
 | none=>rfl
 | some u=>
  exfalso
  have hn:=h3 o ho
  by_cases z:o.o=wl
  ·rw[z,s _ _ ae]at hn;cases hn
  ·rw[s _ _ (show upd H wl (.lst (bX (ws.set c w'))) o.o=some u by rw[aq z];exact e)]at hn;cases hn
noncomputable def put2 (n:Nat) (p q:Nat×Nat) (l:List (Nat×Nat)):List (Nat×Nat):=l.take n++p::q::l.drop n
noncomputable def q0 (_:PySem.W.Frag):Sp:=fun vs H Q _=> ∃(d wl:Addr) (bs:List Nat) (os:List Od) (ws:List (List Nat)) (c k n j:Nat) (w:List Nat) (x:Nat) (o:Od),vs=[.ref wl, .ref d, .int c, .int k, .str (S [x]), .int n]/\jr H d wl bs os ws/\ws[c]? =some w/\k<=w.length/\Lt x/\bs[j]? =some (PyProof.Rows.lo1 x)/\os[j]? =some o/\n<=o.ps.length/\o.ps.length<=90/\
 ∀(os':List Od) (H':Hp),bL H' d bs os'->os'.map bg=(os.map (fun o=>cL c (kx k) (bg o))).set j (put2 n (c,k) (c,k+1) (cL c (kx k) (bg o)))->H' wl=some (.lst (bX (ws.set c (w.take k++[x]++[aU x]++w.drop k))))->(∀o∈os',H o.o=none)->yW d wl H H'->Q (.bl true) H'
theorem wO {K:PySem.W.Frag} {vs:List V} {H:Hp} {Q:VK} {E:XK} (h:q0 K vs H Q E):vs.length=6:=by obtain ⟨_,_,_,_,_,_,_,_,_,_,_,_,rfl,_⟩:=h;rfl
theorem ki (c k:Nat): ∀l:List (Nat×Nat),(cL c (kx k) l).length=l.length
 | []=>rfl
 | p::l=>by
  have ih:=ki c k l
  unfold cL at ih ⊢
  have e: ∃q,il c (kx k) p=some q:=by
   unfold il kx
   by_cases z:p.1=c
   ·rw[if_pos z];split<;>exact ⟨_,rfl⟩
   ·rw[if_neg z];exact ⟨_,rfl⟩
  obtain ⟨q,hq⟩:=e
  rw[List.filterMap_cons,hq]
  simp[ih]
theorem uR (ps:List Pr) (n:Nat) (p:Pr):(bR ps).take n++V.ref p.t::(bR ps).drop n=bR (ps.take n++p::ps.drop n):=by unfold bR;rw[List.map_append,List.map_cons,List.map_take,List.map_drop]
inductive dP where
 | swap (b n:Nat) | out (c k:Nat) | turn (c:Nat) | ins (c k x n:Nat)
noncomputable def B_:List Nat:=[115,119,97,112]
noncomputable def Hu:List Nat:=[111,117,116]
noncomputable def Ca:List Nat:=[116,117,114,110]
noncomputable def SM:List Nat:=[105,110]
noncomputable def d_ (H:Hp) (a:Addr):dP->Prop
 | .swap b n=>H a=some (.tup [.str (S B_), .str (S [b]), .int n])
 | .out c k=>H a=some (.tup [.str (S Hu), .int c, .int k])
 | .turn c=>H a=some (.tup [.str (S Ca), .int c])
 | .ins c k x n=>H a=some (.tup [.str (S SM), .int c, .int k, .str (S [x]), .int n])
theorem d_.ts {H H':Hp} {a:Addr} {e:dP} (h:d_ H a e) (s:aF H H'):d_ H' a e:=by cases e<;>exact s _ _ h
noncomputable def gp (n:Nat) (l:List (Nat×Nat)):List (Nat×Nat):=match l[n]?, l[n+1]? with | some p,some q=>(l.set n q).set (n+1) p | _,_=>l
theorem yX (n:Nat) (l:List Pr):(swapAt n l).map Pr.pair=gp n (l.map Pr.pair):=by
 unfold swapAt gp
 rw[List.getElem?_map,List.getElem?_map]
 cases l[n]?<;> cases l[n+1]?<;> simp[List.map_set]
noncomputable abbrev fb:=List (List (Nat×Nat))
noncomputable def dW (ws:List (List Nat)):dP->List (List Nat)
 | .swap _ _=>ws
 | .out c k=>ws.set c ((ws.getD c []).take k++(ws.getD c []).drop (k+2))
 | .turn c=>ws.set c ((ws.getD c []).drop 1++(ws.getD c []).take 1)
 | .ins c k x _=>ws.set c ((ws.getD c []).take k++[x]++[aU x]++(ws.getD c []).drop k)
noncomputable def dO (bs:List Nat) (ws:List (List Nat)) (L:fb):dP->fb
 | .swap b n=>L.set (bs.idxOf b) (gp n (L.getD (bs.idxOf b) []))
 | .out c k=>L.map (cL c (outF k))
 | .turn c=>L.map (cL c (gn (ws.getD c []).length))
 | .ins c k x n=>(L.map (cL c (kx k))).set (bs.idxOf (PyProof.Rows.lo1 x)) (put2 n (c,k) (c,k+1) (cL c (kx k) (L.getD (bs.idxOf (PyProof.Rows.lo1 x)) [])))
noncomputable def Bg (y bs:List Nat) (ws:List (List Nat)) (L:fb):dP->Prop
 | .swap b n=>b∈bs/\n+1<(L.getD (bs.idxOf b) []).length
 | .out c k=>c<ws.length/\ ∃x,(ws.getD c [])[k]? =some x/\(ws.getD c [])[k+1]? =some (aU x)
 | .turn c=>c<ws.length
 | .ins c k x n=>c<ws.length/\k<=(ws.getD c []).length/\(ws.getD c []).length<=10/\x∈y/\n<=(L.getD (bs.idxOf (PyProof.Rows.lo1 x)) []).length
noncomputable def lZ (_:PySem.W.Frag):Sp:=fun vs H Q _=> ∃(y:List Nat) (d wl a:Addr) (os:List Od) (ws:List (List Nat)) (e:dP),vs=[.str (S y), .ref wl, .ref d, .ref a]/\Yd y/\y.length<=8/\jr H d wl (aD y) os ws/\(∀o∈os,o.ps.length<=90)/\d_ H a e/\Bg y (aD y) ws (os.map bg) e/\
 ∀(os':List Od) (H':Hp),bL H' d (aD y) os'->os'.map bg=dO (aD y) ws (os.map bg) e->H' wl=some (.lst (bX (dW ws e)))->(∀o∈os',H o.o=none\/o.o∈os.map Od.o)->(∀x u,H x=some u->x≠d->x≠wl->x∉os.map Od.o->H' x=some u)->Q (.bl true) H'
theorem q8 {K:PySem.W.Frag} {vs:List V} {H:Hp} {Q:VK} {E:XK} (h:lZ K vs H Q E):vs.length=4:=by obtain ⟨_,_,_,_,_,_,_,rfl,_⟩:=h;rfl
theorem bB {α:Type} {l:List α} {i:Nat} {a x:α} (h:l[i]? =some a):l.getD i x=a:=by rw[List.getD_eq_getElem?_getD,h];rfl
theorem jr.same {H H':Hp} {d wl:Addr} {bs:List Nat} {os:List Od} {ws:List (List Nat)} (h:jr H d wl bs os ws) (s:ah H H'):jr H' d wl bs os ws:=⟨h.od.same s,s _ _ h.wd,h.nd,h.bl,h.ne,h.pz,h.wz,h.wo⟩
theorem n_ {α:Type} {f:Nat->List α} (g:α->Nat): ∀{l:List Nat},l.Nodup->(∀e∈l,(f e).Nodup)->(∀e∈l, ∀p∈f e,g p=e)->(l.flatMap f).Nodup
 | [],_,_,_=>List.nodup_nil
 | a::l,hn,h1,h2=>by
  obtain ⟨n1,n2⟩:=List.nodup_cons.mp hn
  rw[List.flatMap_cons,List.nodup_append]
  refine ⟨h1 a List.mem_cons_self,n_ g n2 (fun e he=>h1 e (List.mem_cons_of_mem _ he)) (fun e he=>h2 e (List.mem_cons_of_mem _ he)),fun x hx y hy z=>?_⟩
  subst z
  obtain ⟨e,he,Vc⟩:=List.mem_flatMap.mp hy
  have g1:=h2 a List.mem_cons_self x hx
  have g2:=h2 e (List.mem_cons_of_mem _ he) x Vc
  exact n1 (by rw[<-g1,g2];exact he)
theorem gb (band:Nat) (ws:List (List Nat)) (n:Nat):(bz band ws n).Nodup:=
 n_ Prod.fst List.nodup_range (fun c _=>by
  unfold ef
  show (List.map _ _).Pairwise (· ≠ ·)
  rw[List.pairwise_map]
  exact (List.nodup_range.filter _).imp fun {i j} h z=>h (by cases z;rfl)) fun c _ p hp=>by
  unfold ef at hp
  obtain ⟨i,_,rfl⟩:=List.mem_map.mp hp
  rfl
theorem gc {band c i n:Nat} {ws:List (List Nat)}:(c,i)∈bz band ws n↔c<n/\i<(ws.getD c []).length/\rG band ((ws.getD c []).getD i 0)=true:=by
 constructor
 ·intro h
  obtain ⟨c',hc,h2⟩:=List.mem_flatMap.mp h
  unfold ef at h2
  obtain ⟨i',hi,e⟩:=List.mem_map.mp h2
  obtain ⟨Vd,v8⟩:=List.mem_filter.mp hi
  cases e
  exact ⟨List.mem_range.mp hc,List.mem_range.mp Vd,v8⟩
 ·rintro ⟨h1,h2,h3⟩
  exact List.mem_flatMap.mpr ⟨c,List.mem_range.mpr h1,List.mem_map.mpr ⟨i,List.mem_filter.mpr ⟨List.mem_range.mpr h2,h3⟩,rfl⟩⟩
theorem yY {ws:List (List Nat)} {c d:Nat} {w':List Nat} (h:c<ws.length):(ws.set c w').getD d []=if d=c then w' else ws.getD d []:=by
 rw[List.getD_eq_getElem?_getD,List.getElem?_set]
 by_cases z:c=d
 ·subst z;rw[if_pos rfl,if_pos rfl,if_pos h];rfl
 ·rw[if_neg z,if_neg fun y=>z y.symm,List.getD_eq_getElem?_getD]
theorem l_ {ws:List (List Nat)} {b c:Nat} {w' X:List Nat} {f:Nat->Option Nat} (hc:c<ws.length) (hX:X.Nodup)
  (inj: ∀i i' j,i<(ws.getD c []).length->i'<(ws.getD c []).length->f i=some j->f i'=some j->i=i')
  (hj: ∀j,(j<w'.length/\rG b (w'.getD j 0)=true)↔((∃i,i<(ws.getD c []).length/\rG b ((ws.getD c []).getD i 0)=true/\f i=some j)\/j∈X))
  (hx: ∀i j,i<(ws.getD c []).length->f i=some j->j∉X):
  (bz b (ws.set c w') (ws.set c w').length).Perm (X.map (fun j=>(c,j))++cL c f (bz b ws ws.length)):=by
 have Ve:(cL c f (bz b ws ws.length)).Nodup:=by
  unfold cL
  show List.Pairwise (· ≠ ·) _
  rw[List.pairwise_filterMap]
  refine List.Pairwise.imp_of_mem ?_ (gb b ws ws.length)
  rintro ⟨a1,a2⟩ ⟨b1,b2⟩ ma mb jG q hq q' tF e
  subst e
  obtain ⟨YN,Vf,_⟩:=gc.mp ma
  obtain ⟨YO,Vg,_⟩:=gc.mp mb
  unfold il at hq tF
  by_cases za:a1=c<;>by_cases zb:b1=c
  ·subst za
   subst zb
   rw[if_pos rfl]at hq tF
   cases e1:f a2 with
   | none=>rw[e1]at hq;cases hq
   | some j=>
    cases e2:f b2 with
    | none=>rw[e2]at tF;cases tF
    | some j'=>
     rw[e1]at hq
     rw[e2]at tF
     cases hq
     have:j'=j:=by injection tF with z;exact congrArg Prod.snd z
     subst this
     exact jG (by rw[inj a2 b2 j' Vf Vg e1 e2])
  ·rw[if_pos za]at hq
   rw[if_neg zb]at tF
   cases tF
   cases e1:f a2 with
   | none=>rw[e1]at hq;cases hq
   | some j=>rw[e1]at hq;injection hq with z;exact zb (congrArg Prod.fst z).symm
  ·rw[if_neg za]at hq
   rw[if_pos zb]at tF
   cases hq
   cases e1:f b2 with
   | none=>rw[e1]at tF;cases tF
   | some j=>rw[e1]at tF;injection tF with z;exact za (congrArg Prod.fst z).symm
  ·rw[if_neg za]at hq
   rw[if_neg zb]at tF
   cases hq
   cases tF
   exact jG rfl
 have Hv: ∀d j,(d,j)∈cL c f (bz b ws ws.length)↔(if d=c then ∃i,i<(ws.getD c []).length/\rG b ((ws.getD c []).getD i 0)=true/\f i=some j else (d,j)∈bz b ws ws.length):=fun d j=>by
  unfold cL
  rw[List.mem_filterMap]
  by_cases z:d=c
  ·subst z
   rw[if_pos rfl]
   constructor
   ·rintro ⟨⟨d',i⟩,hm,he⟩
    unfold il at he
    by_cases y:d'=d
    ·subst y
     rw[if_pos rfl]at he
     cases e1:f i with
     | none=>rw[e1]at he;cases he
     | some j'=>
      rw[e1]at he
      have:j'=j:=by injection he with z;exact congrArg Prod.snd z
      subst this
      obtain ⟨_,m2,m3⟩:=gc.mp hm
      exact ⟨i,m2,m3,e1⟩
    ·rw[if_neg y]at he
     exact absurd (congrArg Prod.fst (Option.some.inj he)) y
   ·rintro ⟨i,h1,h2,h3⟩
    exact ⟨(d,i),gc.mpr ⟨hc,h1,h2⟩,by unfold il;rw[if_pos rfl,h3];rfl⟩
  ·rw[if_neg z]
   constructor
   ·rintro ⟨⟨d',i⟩,hm,he⟩
    unfold il at he
    by_cases y:d'=c
    ·rw[if_pos y]at he
     cases e1:f i with
     | none=>rw[e1]at he;cases he
     | some j'=>rw[e1]at he;injection he with y';exact absurd (congrArg Prod.fst y').symm z
    ·rw[if_neg y]at he
     cases he
     exact hm
   ·intro hm
    exact ⟨(d,j),hm,if_neg z⟩
 refine (List.perm_ext_iff_of_nodup (gb _ _ _) (List.nodup_append.mpr ⟨?_,Ve,?_⟩)).mpr fun p=>?_
 ·show (List.map _ _).Pairwise (· ≠ ·)
  rw[List.pairwise_map]
  exact hX.imp fun {i j} h z=>h (by cases z;rfl)
 ·rintro p hp q hq rfl
  obtain ⟨j,Vh,rfl⟩:=List.mem_map.mp hp
  rw[Hv,if_pos rfl]at hq
  obtain ⟨i,h1,_,h3⟩:=hq
  exact hx i j h1 h3 Vh
 ·obtain ⟨d,j⟩:=p
  rw[gc,List.length_set,yY hc,List.mem_append,Hv]
  by_cases z:d=c
  ·subst z
   rw[if_pos rfl,if_pos rfl]
   constructor
   ·rintro ⟨_,h1,h2⟩
    rcases (hj j).mp ⟨h1,h2⟩ with g | g
    ·exact .inr g
    ·exact .inl (List.mem_map.mpr ⟨j,g,rfl⟩)
   ·rintro (g | g)
    ·obtain ⟨j',g1,g2⟩:=List.mem_map.mp g
     have:j'=j:=congrArg Prod.snd g2
     subst this
     exact ⟨hc,(hj j').mpr (.inr g1)⟩
    ·exact ⟨hc,(hj j).mpr (.inl g)⟩
  ·rw[if_neg z,if_neg z,gc]
   constructor
   ·exact fun h=> .inr h
   ·rintro (g | g)
    ·obtain ⟨j',_,g2⟩:=List.mem_map.mp g
     exact absurd (congrArg Prod.fst g2).symm z
    ·exact g
noncomputable def JW (y:List Nat) (ws:List (List Nat)) (L:fb):Prop:=L.length=(aD y).length/\ ∀(j:Nat) (l:List (Nat×Nat)) (b:Nat),L[j]? =some l->(aD y)[j]? =some b->l.Perm (bz b ws ws.length)
structure Good (y:List Nat) (ws:List (List Nat)) (L:fb):Prop where
 wk:pA y ws
 lk:JW y ws L
theorem yZ (w:List Nat) (k j:Nat) (hk:k+1<w.length):(w.take k++w.drop (k+2)).getD j 0=if j<k then w.getD j 0 else w.getD (j+2) 0:=by
 rw[List.getD_eq_getElem?_getD]
 by_cases z:j<k
 ·rw[if_pos z,List.getElem?_append_left (by rw[List.length_take];omega),List.getElem?_take,if_pos z,List.getD_eq_getElem?_getD]
 ·rw[if_neg z,List.getElem?_append_right (by rw[List.length_take];omega),List.length_take,List.getElem?_drop,List.getD_eq_getElem?_getD,show k+2+(j - min k w.length)=j+2 by omega]
theorem jW (w:List Nat) (j:Nat) (hj:j<w.length):(w.drop 1++w.take 1).getD j 0=if j+1<w.length then w.getD (j+1) 0 else w.getD 0 0:=by
 rw[List.getD_eq_getElem?_getD]
 by_cases z:j+1<w.length
 ·rw[if_pos z,List.getElem?_append_left (by rw[List.length_drop];omega),List.getElem?_drop,List.getD_eq_getElem?_getD,show 1+j=j+1 by omega]
 ·rw[if_neg z,List.getElem?_append_right (by rw[List.length_drop];omega),List.length_drop,List.getElem?_take,if_pos (by omega),List.getD_eq_getElem?_getD,show j - (w.length - 1)=0 by omega]
theorem y0 (w:List Nat) (k x j:Nat) (hk:k<=w.length):(w.take k++[x]++[aU x]++w.drop k).getD j 0=if j<k then w.getD j 0 else if j=k then x else if j=k+1 then aU x else w.getD (j - 2) 0:=by
 have el:(w.take k).length=k:=by rw[List.length_take];omega
 rw[List.getD_eq_getElem?_getD]
 by_cases z:j<k
 ·rw[if_pos z,List.getElem?_append_left (by simp;omega),List.getElem?_append_left (by simp;omega),List.getElem?_append_left (by omega),List.getElem?_take,if_pos z,List.getD_eq_getElem?_getD]
 ·rw[if_neg z]
  by_cases z1:j=k
  ·rw[if_pos z1,List.getElem?_append_left (by simp;omega),List.getElem?_append_left (by simp;omega),List.getElem?_append_right (by omega),el,z1,Nat.sub_self];rfl
  ·rw[if_neg z1]
   by_cases z2:j=k+1
   ·have e2:(w.take k++[x]).length=k+1:=by rw[List.length_append,el];rfl
    rw[if_pos z2,List.getElem?_append_left (by simp;omega),List.getElem?_append_right (by omega),e2,z2,Nat.sub_self];rfl
   ·have e3:(w.take k++[x]++[aU x]).length=k+2:=by rw[List.length_append,List.length_append,el];rfl
    rw[if_neg z2,List.getElem?_append_right (by omega),e3,List.getElem?_drop,List.getD_eq_getElem?_getD,show k+(j - (k+2))=j - 2 by omega]
theorem uS {b x:Nat} (hb:Lt b) (hx:Lt x):rG b (aU x)=rG b x:=by
 unfold rG
 have e1:decide (aU x=b)=decide (x=aU b):=decide_eq_decide.mpr ⟨fun z=>by rw[<-z,bo hx],fun z=>by rw[z,bo hb]⟩
 have e2:decide (aU x=aU b)=decide (x=b):=decide_eq_decide.mpr ⟨fun z=>by rw[<-bo hx,z,bo hb],fun z=>by rw[z]⟩
 rw[e1,e2,Bool.or_comm]
theorem md (n:Nat) (l:List (Nat×Nat)):(gp n l).Perm l:=by
 unfold gp
 cases h0:l[n]? with
 | none=>exact List.Perm.refl _
 | some p=>cases h1:l[n+1]? with
  | none=>exact List.Perm.refl _
  | some q=>
   show ((l.set n q).set (n+1) p).Perm l
   induction l generalizing n with
   | nil=>simp at h0
   | cons x l ih=>
    cases n with
    | zero=>
     cases l with
     | nil=>simp at h1
     | cons y l=>
      cases h0
      have e:y=q:=by simpa using h1
      subst e
      exact List.Perm.swap _ _ l
    | succ n=>exact (ih n (by simpa using h0) (by simpa using h1)).cons x
theorem wQ (n:Nat) (p q:Nat×Nat) (l:List (Nat×Nat)):(put2 n p q l).Perm (p::q::l):=by
 unfold put2
 have h1:=List.perm_middle (l₁:=l.take n) (a:=p) (l₂:=q::l.drop n)
 have h2:=List.perm_middle (l₁:=l.take n) (a:=q) (l₂:=l.drop n)
 rw[List.take_append_drop]at h2
 exact h1.trans (h2.cons p)
theorem uT {α:Type} {l:List α} {j:Nat} {a x:α} {i:Nat} (h:(l.set j a)[i]? =some x):(i=j/\x=a)\/(i≠j/\l[i]? =some x):=by
 rw[List.getElem?_set]at h
 by_cases z:j=i
 ·rw[if_pos z]at h
  split at h
  ·exact .inl ⟨z.symm,(Option.some.inj h).symm⟩
  ·cases h
 ·rw[if_neg z]at h
  exact .inr ⟨fun y=>z y.symm,h⟩
theorem me {y:List Nat} {ws:List (List Nat)} {c:Nat} {w':List Nat} (h:pA y ws) (hw:(∀x∈w',x∈y)/\w'.length<=12):pA y (ws.set c w'):=⟨by rw[List.length_set];exact h.jQ,fun w hm=>(List.mem_or_eq_of_mem_set hm).elim (h.all w) fun e=>by rw[e];exact hw⟩
theorem getD_mem {ws:List (List Nat)} {c:Nat} (h:c<ws.length):ws.getD c []∈ws:=by rw[List.getD_eq_getElem?_getD,List.getElem?_eq_getElem h];exact List.getElem_mem h
theorem jv {l:List Nat} (h:l.Nodup) {n p:Nat} (e:l[n]? =some p):l.idxOf p=n:=by
 obtain ⟨hn,e2⟩:=List.getElem?_eq_some_iff.mp e
 have hi:=List.idxOf_lt_length_of_mem (List.mem_of_getElem? e)
 have hp:=List.pairwise_iff_getElem.mp h
 have e3:l[l.idxOf p]=l[n]:=(List.getElem_idxOf hi).trans e2.symm
 rcases Nat.lt_trichotomy (l.idxOf p) n with z | z | z
 ·exact absurd e3 (hp _ _ hi hn z)
 ·exact z
 ·exact absurd e3.symm (hp _ _ hn hi z)
theorem Good.step {y:List Nat} {ws:List (List Nat)} {L:fb} {e:dP} (hy:Yd y) (g:Good y ws L) (bh:Bg y (aD y) ws L e):Good y (dW ws e) (dO (aD y) ws L e):=by
 obtain ⟨gw,gl,go⟩:=g
 have bl: ∀b∈aD y,b∈bb:=fun b hb=>by
  have:=List.mem_filter.mp ((cW y).mem_iff.mp hb)
  have h2:=this.2
  rw[hJ (hy.lt b this.1)]at h2
  exact of_decide_eq_true h2
 cases e with
 | swap b n=>
  refine ⟨gw,by show (L.set _ _).length=_;rw[List.length_set];exact gl,fun j l b' hl B9=>?_⟩
  rcases uT (show (L.set _ (gp n (L.getD ((aD y).idxOf b) [])))[j]? =some l from hl) with ⟨e1,e2⟩ | ⟨_,e2⟩
  ·subst e1
   have hj:(aD y).idxOf b<L.length:=by rw[gl];exact (List.getElem?_eq_some_iff.mp B9).1
   have hg:L[(aD y).idxOf b]? =some L[(aD y).idxOf b]:=List.getElem?_eq_getElem hj
   rw[e2,bB hg]
   exact (md n _).trans (go _ _ _ hg B9)
  ·exact go j l b' e2 B9
 | out c k=>
  obtain ⟨hc,x,h0,h1⟩:=bh
  have hk:k+1<(ws.getD c []).length:=(List.getElem?_eq_some_iff.mp h1).1
  obtain ⟨wy,wz⟩:=gw.all _ (getD_mem hc)
  refine ⟨me gw ⟨fun z hz=>?_,by rw[List.length_append,List.length_take,List.length_drop];omega⟩,by show (L.map _).length=_;rw[List.length_map];exact gl,fun j l b hl hb=>?_⟩
  ·rcases List.mem_append.mp hz with q | q
   ·exact wy z (List.mem_of_mem_take q)
   ·exact wy z (List.mem_of_mem_drop q)
  ·obtain ⟨l0,oa,rfl⟩:=Option.map_eq_some_iff.mp (by rw[<-List.getElem?_map];exact hl)
   have hp:=go j l0 b oa hb
   refine (hp.filterMap (il c (outF k))).trans ((l_ (X:=[]) hc List.nodup_nil ?_ ?_ ?_).symm)
   ·intro i i' j' _ _ e1 e2
    unfold outF at e1 e2
    split at e1
    ·have a1:=Option.some.inj e1
     split at e2
     ·have a2:=Option.some.inj e2;omega
     ·split at e2
      ·cases e2
      ·have a2:=Option.some.inj e2;omega
    ·split at e1
     ·cases e1
     ·have a1:=Option.some.inj e1
      split at e2
      ·have a2:=Option.some.inj e2;omega
      ·split at e2
       ·cases e2
       ·have a2:=Option.some.inj e2;omega
   ·intro j'
    rw[yZ _ _ _ hk]
    have hlen:((ws.getD c []).take k++(ws.getD c []).drop (k+2)).length=(ws.getD c []).length - 2:=by rw[List.length_append,List.length_take,List.length_drop];omega
    rw[hlen]
    constructor
    ·rintro ⟨q1,q2⟩
     refine .inl ?_
     by_cases z:j'<k
     ·rw[if_pos z]at q2;exact ⟨j',by omega,q2,by unfold outF;rw[if_pos z]⟩
     ·rw[if_neg z]at q2;exact ⟨j'+2,by omega,q2,by unfold outF;rw[if_neg (by omega),if_neg (by omega)];rfl⟩
    ·rintro (⟨i,q1,q2,q3⟩ | q)
     ·unfold outF at q3
      split at q3
      ·rename_i z;cases q3;rw[if_pos z];exact ⟨by omega,q2⟩
      ·split at q3
       ·cases q3
       ·cases q3
        rw[if_neg (by omega),show i - 2+2=i by omega]
        exact ⟨by omega,q2⟩
     ·cases q
   ·intro i j' _ _ q;cases q
 | turn c=>
  have hc:c<ws.length:=bh
  obtain ⟨wy,wz⟩:=gw.all _ (getD_mem hc)
  refine ⟨me gw ⟨fun z hz=>?_,by rw[List.length_append,List.length_take,List.length_drop];omega⟩,by show (L.map _).length=_;rw[List.length_map];exact gl,fun j l b hl hb=>?_⟩
  ·rcases List.mem_append.mp hz with q | q
   ·exact wy z (List.mem_of_mem_drop q)
   ·exact wy z (List.mem_of_mem_take q)
  ·obtain ⟨l0,oa,rfl⟩:=Option.map_eq_some_iff.mp (by rw[<-List.getElem?_map];exact hl)
   have hp:=go j l0 b oa hb
   refine (hp.filterMap (il c (gn (ws.getD c []).length))).trans ((l_ (X:=[]) hc List.nodup_nil ?_ ?_ ?_).symm)
   ·intro i i' j' h1 h2 e1 e2
    unfold gn at e1 e2
    split at e1<;>split at e2<;>(have a1:=Option.some.inj e1;have a2:=Option.some.inj e2;omega)
   ·intro j'
    have hlen:((ws.getD c []).drop 1++(ws.getD c []).take 1).length=(ws.getD c []).length:=by rw[List.length_append,List.length_take,List.length_drop];omega
    rw[hlen]
    constructor
    ·rintro ⟨q1,q2⟩
     rw[jW _ _ q1]at q2
     refine .inl ?_
     by_cases z:j'+1<(ws.getD c []).length
     ·rw[if_pos z]at q2;exact ⟨j'+1,z,q2,by unfold gn;rw[if_neg (by omega)];rfl⟩
     ·rw[if_neg z]at q2;exact ⟨0,by omega,q2,by unfold gn;rw[if_pos rfl];congr 1;omega⟩
    ·rintro (⟨i,q1,q2,q3⟩ | q)
     ·unfold gn at q3
      split at q3
      ·rename_i z
       cases q3
       refine ⟨by omega,?_⟩
       rw[jW _ _ (by omega),if_neg (by omega)]
       rw[z]at q2
       exact q2
      ·cases q3
       refine ⟨by omega,?_⟩
       rw[jW _ _ (by omega),if_pos (by omega),show i - 1+1=i by omega]
       exact q2
     ·cases q
   ·intro i j' _ _ q;cases q
 | ins c k x n=>
  obtain ⟨hc,hk,Hw,wR,hn⟩:=bh
  obtain ⟨wy,wz⟩:=gw.all _ (getD_mem hc)
  have Eo:=hy.lt x wR
  refine ⟨me gw ⟨fun z hz=>?_,by rw[List.length_append,List.length_append,List.length_append,List.length_take,List.length_drop,List.length_singleton,List.length_singleton];omega⟩,by show ((L.map _).set _ _).length=_;rw[List.length_set,List.length_map];exact gl,fun j l b hl hb=>?_⟩
  ·rcases List.mem_append.mp hz with q | q
   ·rcases List.mem_append.mp q with q | q
    ·rcases List.mem_append.mp q with q | q
     ·exact wy z (List.mem_of_mem_take q)
     ·rw[List.mem_singleton.mp q];exact wR
    ·rw[List.mem_singleton.mp q];exact hy.cl x wR
   ·exact wy z (List.mem_of_mem_drop q)
  ·have Vi:=List.mem_of_getElem? hb
   have Hx:=bl b Vi
   have xt:j<L.length:=by rw[gl];exact (List.getElem?_eq_some_iff.mp hb).1
   have Mj:L[j]? =some L[j]:=List.getElem?_eq_getElem xt
   have hp:=go j _ b Mj hb
   have base:(bz b (ws.set c ((ws.getD c []).take k++[x]++[aU x]++(ws.getD c []).drop k)) (ws.set c ((ws.getD c []).take k++[x]++[aU x]++(ws.getD c []).drop k)).length).Perm ((if rG b x=true then [k,k+1] else []).map (fun j=>(c,j))++cL c (kx k) (bz b ws ws.length)):=by
    refine l_ hc ?_ ?_ ?_ ?_
    ·split
     ·simp
     ·exact List.nodup_nil
    ·intro i i' j' _ _ e1 e2
     unfold kx at e1 e2
     split at e1<;>split at e2<;>(have a1:=Option.some.inj e1;have a2:=Option.some.inj e2;omega)
    ·intro j'
     have hlen:((ws.getD c []).take k++[x]++[aU x]++(ws.getD c []).drop k).length=(ws.getD c []).length+2:=by rw[List.length_append,List.length_append,List.length_append,List.length_take,List.length_drop,List.length_singleton,List.length_singleton];omega
     rw[hlen,y0 _ _ _ _ hk]
     constructor
     ·rintro ⟨q1,q2⟩
      by_cases z:j'<k
      ·rw[if_pos z]at q2;exact .inl ⟨j',by omega,q2,by unfold kx;rw[if_pos z]⟩
      ·rw[if_neg z]at q2
       by_cases z1:j'=k
       ·rw[if_pos z1]at q2;exact .inr (by rw[if_pos q2,z1];exact List.mem_cons_self)
       ·rw[if_neg z1]at q2
        by_cases z2:j'=k+1
        ·rw[if_pos z2,uS (.inl Hx) Eo]at q2;exact .inr (by rw[if_pos q2,z2];exact List.mem_cons_of_mem _ List.mem_cons_self)
        ·rw[if_neg z2]at q2;exact .inl ⟨j' - 2,by omega,q2,by unfold kx;rw[if_neg (by omega)];congr 1;omega⟩
     ·rintro (⟨i,q1,q2,q3⟩ | q)
      ·unfold kx at q3
       split at q3
       ·rename_i z;cases q3;rw[if_pos z];exact ⟨by omega,q2⟩
       ·cases q3
        rw[if_neg (by omega),if_neg (by omega),if_neg (by omega),show i+2 - 2=i by omega]
        exact ⟨by omega,q2⟩
      ·split at q
       ·rename_i z
        rcases List.mem_cons.mp q with e | q
        ·rw[e,if_neg (by omega),if_pos rfl];exact ⟨by omega,z⟩
        ·rw[List.mem_singleton.mp q,if_neg (by omega),if_neg (by omega),if_pos rfl,uS (.inl Hx) Eo];exact ⟨by omega,z⟩
       ·cases q
    ·intro i j' _ e1 q
     split at q
     ·unfold kx at e1
      have hq:j'=k\/j'=k+1:=by simpa using q
      split at e1<;>(have a1:=Option.some.inj e1;omega)
     ·cases q
   have JX:rG b x=decide (PyProof.Rows.lo1 x=b):=(sZ Hx Eo).symm
   rcases uT (show ((L.map (cL c (kx k))).set ((aD y).idxOf (PyProof.Rows.lo1 x)) (put2 n (c,k) (c,k+1) (cL c (kx k) (L.getD ((aD y).idxOf (PyProof.Rows.lo1 x)) []))))[j]? =some l from hl) with ⟨e1,e2⟩ | ⟨e1,e2⟩
   ·subst e1
    have BY:=yR hy wR
    have xn:b=PyProof.Rows.lo1 x:=by
     have hj:=List.idxOf_lt_length_of_mem BY
     rw[List.getElem?_eq_getElem hj,List.getElem_idxOf hj]at hb
     exact (Option.some.inj hb).symm
    rw[JX,decide_eq_true xn.symm,if_pos rfl]at base
    rw[e2,bB Mj]
    exact (wQ _ _ _ _).trans ((((hp.filterMap (il c (kx k))).cons _).cons _).trans base.symm)
   ·have jG: ¬PyProof.Rows.lo1 x=b:=fun z=>e1 (by
     have hj:=List.getElem?_eq_some_iff.mp hb
     have zU:(aD y).Nodup:=(cW y).nodup_iff.mpr (hy.nd.filter _)
     rw[z]
     exact (jv zU hb).symm)
    rw[JX,decide_eq_false jG,if_neg (by decide)]at base
    obtain ⟨l0,oa,rfl⟩:=Option.map_eq_some_iff.mp (by rw[<-List.getElem?_map];exact e2)
    rw[Mj]at oa
    cases oa
    exact (hp.filterMap (il c (kx k))).trans base.symm
structure Dd where
 a:Addr
 e:dP
noncomputable def dQ (ds:List Dd):List V:=ds.map fun x=>V.ref x.a
theorem bZ (ds:List Dd):(dQ ds).length=ds.length:=by unfold dQ;rw[List.length_map]
theorem Ep {ds:List Dd} {i:Nat} {x:V} (h:(dQ ds)[i]? =some x): ∃p,ds[i]? =some p/\x=V.ref p.a:=by
 unfold dQ at h
 rw[List.getElem?_map]at h
 cases e:ds[i]? with
 | none=>rw[e]at h;cases h
 | some p=>rw[e]at h;cases h;exact ⟨p,rfl,rfl⟩
noncomputable def Path (y:List Nat):List (List Nat)->fb->List dP->Prop
 | _,_,[]=>True
 | ws,L,e::es=>Bg y (aD y) ws L e/\Path y (dW ws e) (dO (aD y) ws L e) es
noncomputable def eA (y:List Nat):List (List Nat)->fb->List dP->List (List Nat)×fb
 | ws,L,[]=>(ws,L)
 | ws,L,e::es=>eA y (dW ws e) (dO (aD y) ws L e) es
theorem q9 {y:List Nat} (hy:Yd y):(aD y).Nodup:=(cW y).nodup_iff.mpr (hy.nd.filter _)
theorem Good.len {y:List Nat} {ws:List (List Nat)} {os:List Od} (g:Good y ws (os.map bg)): ∀o∈os,o.ps.length<=48:=fun o ho=>by
 obtain ⟨j,hj⟩:=List.mem_iff_getElem?.mp ho
 have hl:=g.lk.1
 rw[List.length_map]at hl
 have Ml:j<(aD y).length:=by rw[<-hl];exact (List.getElem?_eq_some_iff.mp hj).1
 have hp:=g.lk.2 j (bg o) _ (by rw[List.getElem?_map,hj];rfl) (List.getElem?_eq_getElem Ml)
 have h1:=hp.length_eq
 unfold bg at h1
 rw[List.length_map]at h1
 have h2:=iP (aD y)[j] (fun w hw=>(g.wk.all w hw).2) ws.length (Nat.le_refl _)
 have:=g.wk.jQ
 omega
theorem Good.hold {y:List Nat} {ws:List (List Nat)} {os:List Od} {H:Hp} {d wl:Addr} (hy:Yd y) (hz:y.length<=8) (g:Good y ws (os.map bg)) (h:bL H d (aD y) os) (hw:H wl=some (.lst (bX ws))) (ne: ∀o∈os,o.o≠wl):jr H d wl (aD y) os ws:=by
 have Cb:=eY hy
 refine ⟨h,hw,q9 hy,by omega,ne,fun o ho p hp=>?_,g.wk.jQ,fun w hw=>⟨fun c hc=>hy.lt c ((g.wk.all w hw).1 c hc),(g.wk.all w hw).2⟩⟩
 obtain ⟨j,hj⟩:=List.mem_iff_getElem?.mp ho
 have Ml:j<(aD y).length:=by rw[<-h.ln];exact (List.getElem?_eq_some_iff.mp hj).1
 have hV:=g.lk.2 j (bg o) _ (by rw[List.getElem?_map,hj];rfl) (List.getElem?_eq_getElem Ml)
 have hm:(p.c,p.i)∈bg o:=List.mem_map.mpr ⟨p,hp,rfl⟩
 obtain ⟨m1,m2,_⟩:=gc.mp (hV.mem_iff.mp hm)
 refine ⟨ws[p.c],List.getElem?_eq_getElem m1,?_⟩
 rw[bB (List.getElem?_eq_getElem m1)]at m2
 exact m2
noncomputable def uU (_:PySem.W.Frag):Sp:=fun vs H Q _=> ∃(y:List Nat) (dr:Addr) (ws:List (List Nat)) (os:List Od) (ep:Addr) (ds:List Dd),vs=[.str (S y), .ref dr, .ref ep]/\Yd y/\y.length<=8/\Good y ws (os.map bg)/\f_ H dr ws os/\H ep=some (.lst (dQ ds))/\(∀x∈ds,d_ H x.a x.e)/\ds.length<=50000/\Path y ws (os.map bg) (ds.map Dd.e)/\
 ∀(Hy:Addr) (os':List Od) (H':Hp),f_ H' Hy (eA y ws (os.map bg) (ds.map Dd.e)).1 os'->os'.map bg=(eA y ws (os.map bg) (ds.map Dd.e)).2->Good y (eA y ws (os.map bg) (ds.map Dd.e)).1 (os'.map bg)->ah H H'->Q (.ref Hy) H'
theorem y6 {K:PySem.W.Frag} {vs:List V} {H:Hp} {Q:VK} {E:XK} (h:uU K vs H Q E):vs.length=3:=by obtain ⟨_,_,_,_,_,_,rfl,_⟩:=h;rfl
theorem wU {bs:List Nat} {cur:List Od} {b:Nat} {o:Od} (h:cur.length=bs.length):dh bs cur++[(kS [b],V.ref o.o)]=dh (bs++[b]) (cur++[o]):=by
 unfold dh
 rw[List.zip_append h.symm,List.map_append]
 rfl
theorem Bh {a b:List (Nat×Nat)} (h:a.Perm b) (ha:a.Pairwise fun x y=>bE (pz y) (pz x)=false) (hb:b.Pairwise fun x y=>bE (pz y) (pz x)=false):a=b:=by
 refine List.Perm.eq_of_pairwise (fun x y _ _ h1 h2=>?_) ha hb h
 unfold bE pz at h1 h2
 simp only[Bool.or_eq_false_iff,Bool.and_eq_false_iff,decide_eq_false_iff_not]at h1 h2
 exact Prod.ext (by omega) (by omega)
noncomputable def gW (_:PySem.W.Frag):Sp:=fun vs H Q _=> ∃(y:List Nat) (wt ot:Addr) (ws:List (List Nat)) (os:List Od),vs=[.str (S y), .ref wt, .ref ot]/\Yd y/\y.length<=8/\pA y ws/\H wt=some (.tup (bX ws))/\H ot=some (.tup (mV os))/\(∀o∈os,fZ H o)/\sY y ws os/\ ∀H',ah H H'->Q .bW H'
theorem ky {K:PySem.W.Frag} {vs:List V} {H:Hp} {Q:VK} {E:XK} (h:gW K vs H Q E):vs.length=3:=by obtain ⟨c,_,_,_,_,rfl,_⟩:=h;rfl
noncomputable def gq (_:PySem.W.Frag):Sp:=fun vs H Q _=> ∃(y:List Nat) (dr:Addr) (ws:List (List Nat)) (os:List Od),vs=[.str (S y), .ref dr]/\Yd y/\y.length<=8/\pA y ws/\f_ H dr ws os/\sY y ws os/\ ∀H',ah H H'->Q (.bl true) H'
theorem jX {K:PySem.W.Frag} {vs:List V} {H:Hp} {Q:VK} {E:XK} (h:gq K vs H Q E):vs.length=2:=by obtain ⟨c,_,_,_,rfl,_⟩:=h;rfl
theorem JW.os {y:List Nat} {ws:List (List Nat)} {os:List Od} (h:JW y ws (os.map bg)):sY y ws os:=⟨by have:=h.1;rwa [List.length_map]at this,fun j o b ho hb=>h.2 j (bg o) b (by rw[List.getElem?_map,ho];rfl) hb⟩
theorem sY.Vj {y:List Nat} {ws:List (List Nat)} {os:List Od} (h:sY y ws os):JW y ws (os.map bg):=⟨by rw[List.length_map];exact h.1,fun j l b hl hb=>by
 rw[List.getElem?_map]at hl
 cases e:os[j]? with
 | none=>rw[e]at hl;cases hl
 | some o=>rw[e]at hl;cases hl;exact h.2 j o b e hb⟩
noncomputable def pk (ps:List Pr) (idx:List Nat):List Pr:=idx.map fun i=>ps.getD i ⟨0,0,0⟩
theorem Hz (ps:List Pr): ∀idx:List Nat,(∀i∈idx,i<ps.length)->(idx.map fun i=>(bR ps).getD i .bW)=bR (pk ps idx)
 | [],_=>rfl
 | i::idx,h=>by
  show (bR ps).getD i .bW::(idx.map fun i=>(bR ps).getD i .bW)=V.ref (ps.getD i ⟨0,0,0⟩).t::bR (pk ps idx)
  rw[Hz ps idx fun j hj=>h j (List.mem_cons_of_mem _ hj)]
  congr 1
  unfold bR
  rw[List.getD_eq_getElem?_getD,List.getD_eq_getElem?_getD,List.getElem?_map,List.getElem?_eq_getElem (h i List.mem_cons_self)]
  rfl
theorem uV {ps:List Pr} {idx:List Nat} (h:idx.Perm (List.range ps.length)):(pk ps idx).Perm ps:=by
 have e:(List.range ps.length).map (fun i=>ps.getD i ⟨0,0,0⟩)=ps:=by
  refine List.ext_getElem (by simp) fun i g1 g2=>?_
  simp[g2]
 have:=h.map fun i=>ps.getD i ⟨0,0,0⟩
 rw[e]at this
 exact this
theorem Bi {ps:List Pr} {idx:List Nat} (h: ∀i∈idx,i<ps.length) (hp:(idx.map fun i=>((ps.map Pr.pair).map pz).getD i (0,0)).Pairwise fun x y=>bE y x=false):((pk ps idx).map Pr.pair).Pairwise fun x y=>bE (pz y) (pz x)=false:=by
 have e:(idx.map fun i=>((ps.map Pr.pair).map pz).getD i (0,0))=((pk ps idx).map Pr.pair).map pz:=by
  have e2:((pk ps idx).map Pr.pair).map pz=idx.map fun i=>pz (Pr.pair (ps.getD i ⟨0,0,0⟩)):=by
   unfold pk
   rw[List.map_map,List.map_map]
   rfl
  rw[e2]
  refine List.map_congr_left fun i hi=>?_
  show ((ps.map Pr.pair).map pz).getD i (0,0)=pz (Pr.pair (ps.getD i ⟨0,0,0⟩))
  rw[List.getD_eq_getElem?_getD,List.getD_eq_getElem?_getD,List.getElem?_map,List.getElem?_map,List.getElem?_eq_getElem (h i hi)]
  rfl
 rw[e,List.pairwise_map]at hp
 exact hp
theorem HJ {l:List (Nat×Nat)} (h:l.Nodup):(l.map pz).Nodup:=by
 unfold List.Nodup at*
 rw[List.pairwise_map]
 refine h.imp fun {x y} ne e=>ne ?_
 have e1:=congrArg Prod.fst e
 have e2:=congrArg Prod.snd e
 exact Prod.ext (by have:(x.1:Int)=y.1:=e1;omega) (by have:(x.2:Int)=y.2:=e2;omega)
noncomputable def q_ (_:PySem.W.Frag):Sp:=fun vs H Q _=> ∃(b:Addr) (y:List Nat) (dr:Addr) (ws:List (List Nat)) (os:List Od),vs=[.ref b, .str (S y), .ref dr]/\bK H b/\Yd y/\1<=y.length/\y.length<=8/\ws≠[]/\Good y ws (os.map bg)/\f_ H dr ws os/\
 ∀(a:Addr) (e:dP) (H':Hp),d_ H' a e->Bg y (aD y) ws (os.map bg) e->aI b H H'->Q (.ref a) H'
theorem wV {K:PySem.W.Frag} {vs:List V} {H:Hp} {Q:VK} {E:XK} (h:q_ K vs H Q E):vs.length=3:=by obtain ⟨_,_,_,_,_,rfl,_⟩:=h;rfl
noncomputable def Cc (ws:List (List Nat)) (p:Pr):Prop:=p.c<ws.length/\ ∃x,(ws.getD p.c [])[p.i]? =some x/\(ws.getD p.c [])[p.i+1]? =some (aU x)
theorem Good.jQ {y:List Nat} {ws:List (List Nat)} {L:fb} (h:Good y ws L):ws.length<=4:=h.wk.jQ
theorem Good.gX {y:List Nat} {ws:List (List Nat)} {L:fb} (h:Good y ws L): ∀w∈ws,(∀c∈w,c∈y)/\w.length<=12:=h.wk.all
theorem Good.ln {y:List Nat} {ws:List (List Nat)} {L:fb} (h:Good y ws L):L.length=(aD y).length:=h.lk.1
theorem HK {H5:Hp} {X:Hp->Prop} {G:Prop} (f:(∀H6,ah H5 H6->X H6)->G) (x: ∀H6,ah H5 H6->X H6):G:=f x
theorem mf {ws:List (List Nat)} {c:Nat} {w':List Nat} (hc:c<ws.length) (h:az w'=az (ws.getD c [])):(ws.set c w').map az=ws.map az:=by
 refine List.ext_getElem? fun i=>?_
 rw[List.getElem?_map,List.getElem?_map,List.getElem?_set]
 by_cases e:c=i
 ·subst e
  rw[if_pos rfl,if_pos hc,List.getElem?_eq_getElem hc,Option.map_some,Option.map_some,h,bB (List.getElem?_eq_getElem hc)]
 ·rw[if_neg e]
theorem og {y:List Nat} {ws:List (List Nat)} {L:fb} {e:dP} (hy:Yd y) (g:Good y ws L) (bh:Bg y (aD y) ws L e):(dW ws e).map az=ws.map az:=by
 have lt: ∀c,c<ws.length-> ∀x∈ws.getD c [],Lt x:=fun c hc x hx=>by
  rw[bB (List.getElem?_eq_getElem hc)]at hx
  exact hy.lt x ((g.wk.all _ (List.getElem_mem hc)).1 x hx)
 cases e with
 | swap b n=>rfl
 | out c k=>
  obtain ⟨hc,x,h1,h2⟩:=bh
  refine mf hc ?_
  have hl:=lt c hc
  generalize ws.getD c []=w at h1 h2 hl
  have JY:k+1<w.length:=(List.getElem?_eq_some_iff.mp h2).1
  have ew:w=w.take k++x::aU x::w.drop (k+2):=by
   have e1:w.drop k=x::w.drop (k+1):=by rw[List.drop_eq_getElem_cons (by omega),(List.getElem?_eq_some_iff.mp h1).2]
   have e2:w.drop (k+1)=aU x::w.drop (k+2):=by rw[List.drop_eq_getElem_cons JY,(List.getElem?_eq_some_iff.mp h2).2]
   rw[<-e2, <-e1,List.take_append_drop]
  have hx:Lt x:=hl x (List.mem_of_getElem? h1)
  have LZ:Lt (aU x):=hl _ (List.mem_of_getElem? h2)
  rw[dM,dM]
  congr 2
  have:=eV (a:=w.take k) (b:=w.drop (k+2)) (x:=x) (y:=aU x) LZ (bo hx).symm
  rw[<-ew]at this
  exact this.symm
 | turn c=>
  refine mf bh ?_
  have hl:=lt c bh
  generalize ws.getD c []=w at hl
  have:=yP (w:=w) (k:=1) hl
  unfold dJ at this
  exact this
 | ins c k x n=>
  obtain ⟨hc,h1,h2,hx,_⟩:=bh
  refine mf hc ?_
  have hl:=lt c hc
  generalize ws.getD c []=w at hl
  rw[dM,dM]
  congr 2
  have Vk:=hy.lt x hx
  have:=eV (a:=w.take k) (b:=w.drop k) (x:=x) (y:=aU x) (hy.lt _ (hy.cl x hx)) (bo Vk).symm
  rw[List.take_append_drop]at this
  rw[<-this]
  congr 1
  simp
noncomputable def dl:dP->Int
 | .swap _ _=>0
 | .out _ _=> -2
 | .turn _=>0
 | .ins _ _ _ _=>2
theorem y7 (ws:List (List Nat)) (e:dP):(dW ws e).length=ws.length:=by cases e<;>simp[dW]
noncomputable def oh (_:PySem.W.Frag):Sp:=fun vs H Q _=> ∃(b:Addr) (y:List Nat),vs=[.ref b, .str (S y)]/\bK H b/\y≠[]/\y.length<=8/\ ∀(t:Addr) (ws:List (List Nat)) (H':Hp),H t=none->t≠b->H' t=some (.tup (bX ws))->pA y ws->ws≠[]->bK H' b->aI b H H'->Q (.ref t) H'
theorem tG {K:PySem.W.Frag} {vs:List V} {H:Hp} {Q:VK} {E:XK} (h:oh K vs H Q E):vs.length=2:=by obtain ⟨c,_,rfl,_⟩:=h;rfl
theorem uW {ws:List (List Nat)} {i:Nat} {x:V} (h:(bX ws)[i]? =some x): ∃w,ws[i]? =some w/\x= .str (S w):=by
 unfold bX at h
 rw[List.getElem?_map]at h
 cases e:ws[i]? with
 | none=>rw[e]at h;cases h
 | some w=>rw[e]at h;cases h;exact ⟨w,rfl,rfl⟩
theorem Good.ws {y:List Nat} {ws:List (List Nat)} {L:fb} (h:Good y ws L):pA y ws:=h.wk
theorem Good.os {y:List Nat} {ws:List (List Nat)} {os:List Od} (h:Good y ws (os.map bg)):sY y ws os:=h.lk.os
inductive WP (y:List Nat) (c:Nat):List Nat->List dP->List Nat->Prop
 | nil {w:List Nat}:WP y c w [] w
 | out {w v:List Nat} {k x:Nat} {es:List dP}:w[k]? =some x->w[k+1]? =some (aU x)->WP y c (w.take k++w.drop (k+2)) es v->WP y c w (.out c k::es) v
 | turn {w v:List Nat} {es:List dP}:WP y c (w.drop 1++w.take 1) es v->WP y c w (.turn c::es) v
 | ins {w v:List Nat} {k x:Nat} {es:List dP}:k<=w.length->w.length<=10->x∈y->WP y c (w.take k++[x]++[aU x]++w.drop k) es v->WP y c w (.ins c k x 0::es) v
section
variable {y:List Nat} {c:Nat}
theorem WP.app {a b d:List Nat} {es fs:List dP} (h:WP y c a es b) (g:WP y c b fs d):WP y c a (es++fs) d:=by
 induction h with
 | nil=>exact g
 | out h1 h2 _ ih=>exact .out h1 h2 (ih g)
 | turn _ ih=>exact .turn (ih g)
 | ins h1 h2 h3 _ ih=>exact .ins h1 h2 h3 (ih g)
theorem jw {α:Type} (l:List α) (i:Nat) (a b:α):(l.set i a).set i b=l.set i b:=by
 induction l generalizing i with
 | nil=>rfl
 | cons x l ih=>cases i with
  | zero=>rfl
  | succ i=>show x::(l.set i a).set i b=x::l.set i b;rw[ih]
theorem WP.lift (hy:Yd y) {w v:List Nat} {es:List dP} (h:WP y c w es v): ∀{ws:List (List Nat)} {L:fb},Good y ws L->ws[c]? =some w->Path y ws L es/\(eA y ws L es).1=ws.set c v/\Good y (ws.set c v) (eA y ws L es).2:=by
 induction h with
 | nil=>
  intro ws L g hc
  have e:=set_same hc
  exact ⟨trivial,e.symm,by rw[e];exact g⟩
 | @out w v k x es h1 h2 _ ih=>
  intro ws L g hc
  have mh:=(List.getElem?_eq_some_iff.mp hc).1
  have eg:=bB (x:=[]) hc
  have ok:Bg y (aD y) ws L (.out c k):=⟨mh,x,by rw[eg];exact h1,by rw[eg];exact h2⟩
  have eW:dW ws (.out c k)=ws.set c (w.take k++w.drop (k+2)):=by show ws.set c _=_;rw[eg]
  obtain ⟨i1,i2,i3⟩:=ih (g.step hy ok) (by rw[eW];exact List.getElem?_set_self mh)
  have e3:(dW ws _).set c v=ws.set c v:=(congrArg (fun l=>l.set c v) eW).trans (jw ws c _ v)
  refine ⟨⟨ok,i1⟩,i2.trans e3,?_⟩
  rw[<-e3]
  exact i3
 | @turn w v es _ ih=>
  intro ws L g hc
  have mh:=(List.getElem?_eq_some_iff.mp hc).1
  have eg:=bB (x:=[]) hc
  have ok:Bg y (aD y) ws L (.turn c):=mh
  have eW:dW ws (.turn c)=ws.set c (w.drop 1++w.take 1):=by show ws.set c _=_;rw[eg]
  obtain ⟨i1,i2,i3⟩:=ih (g.step hy ok) (by rw[eW];exact List.getElem?_set_self mh)
  have e3:(dW ws _).set c v=ws.set c v:=(congrArg (fun l=>l.set c v) eW).trans (jw ws c _ v)
  refine ⟨⟨ok,i1⟩,i2.trans e3,?_⟩
  rw[<-e3]
  exact i3
 | @ins w v k x es h1 h2 h3 _ ih=>
  intro ws L g hc
  have mh:=(List.getElem?_eq_some_iff.mp hc).1
  have eg:=bB (x:=[]) hc
  have ok:Bg y (aD y) ws L (.ins c k x 0):=⟨mh,by rw[eg];exact h1,by rw[eg];exact h2,h3,Nat.zero_le _⟩
  have eW:dW ws (.ins c k x 0)=ws.set c (w.take k++[x]++[aU x]++w.drop k):=by show ws.set c _=_;rw[eg]
  obtain ⟨i1,i2,i3⟩:=ih (g.step hy ok) (by rw[eW];exact List.getElem?_set_self mh)
  have e3:(dW ws _).set c v=ws.set c v:=(congrArg (fun l=>l.set c v) eW).trans (jw ws c _ v)
  refine ⟨⟨ok,i1⟩,i2.trans e3,?_⟩
  rw[<-e3]
  exact i3
theorem mi: ∀{es fs:List dP} {ws:List (List Nat)} {L:fb},Path y ws L es->Path y (eA y ws L es).1 (eA y ws L es).2 fs->Path y ws L (es++fs)
 | [],_,_,_,_,h=>h
 | _::_,_,_,_,⟨h1,h2⟩,h=>⟨h1,mi h2 h⟩
theorem kG: ∀{es fs:List dP} {ws:List (List Nat)} {L:fb},eA y ws L (es++fs)=eA y (eA y ws L es).1 (eA y ws L es).2 fs
 | [],_,_,_=>rfl
 | _::es,_,_,_=>kG (es:=es)
end
inductive gz:List Nat->List (Nat×Nat)->List Nat->Prop
 | nil {w:List Nat}:gz w [] w
 | cons {w v:List Nat} {k x:Nat} {ps:List (Nat×Nat)}:w[k]? =some x->w[k+1]? =some (aU x)->gz (w.take k++w.drop (k+2)) ps v->gz w ((k,x)::ps) v
theorem gz.snoc {w u:List Nat} {k x:Nat} {ps:List (Nat×Nat)} (h:gz w ps u) (h1:u[k]? =some x) (h2:u[k+1]? =some (aU x)):gz w (ps++[(k,x)]) (u.take k++u.drop (k+2)):=by
 induction h with
 | nil=>exact .cons h1 h2 .nil
 | cons a b _ ih=>exact .cons a b (ih h1 h2)
theorem pH {w:List Nat} {k x:Nat} (h:w[k+1]? =some x):(w.take k++w.drop (k+2)).length+2=w.length:=by
 have:=(List.getElem?_eq_some_iff.mp h).1
 rw[List.length_append,List.length_take,List.length_drop]
 omega
theorem pI {w:List Nat} {k x:Nat} (h:x∈w.take k++w.drop (k+2)):x∈w:=(List.mem_append.mp h).elim List.mem_of_mem_take List.mem_of_mem_drop
theorem gz.len {w v:List Nat} {ps:List (Nat×Nat)} (h:gz w ps v):v.length+2*ps.length=w.length:=by
 induction h with
 | nil=>rfl
 | cons _ b _ ih=>
  have:=pH b
  rw[List.length_cons]
  omega
theorem gz.mem {w v:List Nat} {ps:List (Nat×Nat)} (h:gz w ps v): ∀x∈v,x∈w:=by
 induction h with
 | nil=>exact fun _ h=>h
 | cons _ _ _ ih=>exact fun x hx=>pI (ih x hx)
theorem gz.red {w v:List Nat} {ps:List (Nat×Nat)} (h:gz w ps v):(∀c∈w,Lt c)->red v=red w:=by
 induction h with
 | nil=>exact fun _=>rfl
 | @cons w v k x ps a b _ ih=>
  intro hw
  have hx:=hw x (List.mem_of_getElem? a)
  rw[ih fun c hc=>hw c (pI hc)]
  exact (yI ⟨x,aU x,a,b,(bo hx).symm⟩ hw).1
theorem gz.down {y:List Nat} {c:Nat} {w v:List Nat} {ps:List (Nat×Nat)} (h:gz w ps v):WP y c w (ps.map fun p=> .out c p.1) v:=by
 induction h with
 | nil=>exact .nil
 | cons a b _ ih=>exact .out a b ih
theorem y8 {w:List Nat} {k x:Nat} (a:w[k]? =some x) (b:w[k+1]? =some (aU x)):(w.take k++w.drop (k+2)).take k++[x]++[aU x]++(w.take k++w.drop (k+2)).drop k=w:=by
 have hk:=(List.getElem?_eq_some_iff.mp b).1
 have hl:(w.take k).length=k:=by rw[List.length_take];omega
 rw[List.take_append_of_le_length (by omega),List.take_of_length_le (by omega),List.drop_append_of_le_length (by omega),List.drop_of_length_le (by omega),List.nil_append]
 have e:w=w.take k++(x::aU x::w.drop (k+2)):=by
  have h1:w.drop k=x::w.drop (k+1):=by
   rw[List.drop_eq_getElem_cons (by omega)]
   congr 1
   exact Option.some.inj ((List.getElem?_eq_getElem _).symm.trans a)
  have h2:w.drop (k+1)=aU x::w.drop (k+2):=by
   rw[List.drop_eq_getElem_cons hk]
   congr 1
   exact Option.some.inj ((List.getElem?_eq_getElem _).symm.trans b)
  rw[<-h2, <-h1,List.take_append_drop]
 conv=>rhs;rw[e]
 simp
theorem gz.up {y:List Nat} {c:Nat} {w v:List Nat} {ps:List (Nat×Nat)} (h:gz w ps v):(∀x∈w,x∈y)->w.length<=12->WP y c v (ps.reverse.map fun p=> .ins c p.1 p.2 0) w:=by
 induction h with
 | nil=>exact fun _ _=> .nil
 | @cons w v k x ps a b _ ih=>
  intro hw hz
  have hl:=pH b
  have h1:=ih (fun x hx=>hw x (pI hx)) (by omega)
  rw[List.reverse_cons,List.map_append]
  have hk:=(List.getElem?_eq_some_iff.mp b).1
  refine h1.app (.ins ?_ (by omega) (hw x (List.mem_of_getElem? a)) ?_)
  ·rw[List.length_append,List.length_take,List.length_drop];show k<=_;omega
  ·show WP y c ((w.take k++w.drop (k+2)).take k++[x]++[aU x]++(w.take k++w.drop (k+2)).drop k) [] w
   rw[y8 a b]
   exact .nil
theorem WP.ends {y:List Nat} {c a z:Nat} {m:List Nat} (hz:a=aU z):WP y c (a::(m++[z])) [.turn c, .out c m.length] m:=by
 have e1:(a::(m++[z])).drop 1++(a::(m++[z])).take 1=m++[z,a]:=by simp
 refine .turn ?_
 rw[e1]
 refine .out (x:=z) (by simp) (by rw[List.getElem?_append_right (by omega)];simp[hz]) ?_
 have e2:(m++[z,a]).take m.length++(m++[z,a]).drop (m.length+2)=m:=by simp
 rw[e2]
 exact .nil
theorem WP.Mm {y:List Nat} {c x:Nat} {u:List Nat} (hx:Lt x) (hm:aU x∈y) (hz:u.length<=10):WP y c u [.ins c 0 (aU x) 0, .turn c] (x::u++[aU x]):=by
 refine .ins (Nat.zero_le _) hz hm (.turn ?_)
 have e:(u.take 0++[aU x]++[aU (aU x)]++u.drop 0).drop 1++(u.take 0++[aU x]++[aU (aU x)]++u.drop 0).take 1=x::u++[aU x]:=by rw[bo hx];simp
 rw[e]
 exact .nil
noncomputable def mj (c:Nat):List Nat->List dP
 | []=>[]
 | x::l=> .ins c 0 (aU x) 0:: .turn c::mj c l
theorem jY (c:Nat): ∀(l:List Nat) (x:Nat),mj c (l++[x])=mj c l++[.ins c 0 (aU x) 0, .turn c]
 | [],_=>rfl
 | a::l,x=>by show _::_::mj c (l++[x])=_::_::(mj c l++_);rw[jY c l x]
theorem WP.Cd {y:List Nat} {c:Nat}: ∀(p u:List Nat),(∀x∈p,Lt x/\aU x∈y)->u.length+2*p.length<=12->WP y c u (mj c p.reverse) (p++u++qE p)
 | [],u,_,_=>by
  show WP y c u [] ([]++u++qE [])
  have:([]:List Nat)++u++qE []=u:=by unfold qE;simp
  rw[this]
  exact .nil
 | x::p,u,h,hz=>by
  have hl:(p++u++qE p).length=u.length+2*p.length:=by unfold qE;simp;omega
  have ih:=WP.Cd (y:=y) (c:=c) p u (fun z JQ=>h z (List.mem_cons_of_mem _ JQ)) (by rw[List.length_cons]at hz;omega)
  obtain ⟨h1,h2⟩:=h x List.mem_cons_self
  rw[List.reverse_cons,jY]
  have:=ih.app (WP.Mm (y:=y) (c:=c) h1 h2 (by rw[hl];rw[List.length_cons]at hz;omega))
  have e:x::(p++u++qE p)++[aU x]=x::p++u++qE (x::p):=by rw[qL];simp
  rw[<-e]
  exact this
noncomputable def pJ (c:Nat) (n:Nat):List dP:=List.replicate n (.turn c)
theorem y9 {a:List Nat} {n:Nat} (h:n<a.length):(dJ a n).drop 1++(dJ a n).take 1=dJ a (n+1):=by
 unfold dJ
 have e:a.take (n+1)=a.take n++[a[n]]:=by rw[List.take_succ,List.getElem?_eq_getElem h];rfl
 have e2:a.drop n=a[n]::a.drop (n+1):=List.drop_eq_getElem_cons h
 rw[e2,e]
 show (a.drop (n+1)++a.take n)++[a[n]]=_
 rw[List.append_assoc]
theorem WP.turns {y:List Nat} {c:Nat} {a:List Nat}: ∀n,n<=a.length->WP y c a (pJ c n) (dJ a n)
 | 0,_=>by rw[lN];exact .nil
 | n+1,h=>by
  have e:pJ c (n+1)=pJ c n++[.turn c]:=by unfold pJ;rw[List.replicate_succ']
  rw[e]
  refine (WP.turns n (by omega)).app (.turn ?_)
  rw[y9 (by omega)]
  exact .nil
theorem tH {a b:List Nat} (h:az a=az b): ∃t,t<=(core (red a)).length/\dJ (core (red a)) t=core (red b):=by
 rw[dM,dM]at h
 obtain ⟨i,hi,e1⟩:=fX (core (red a))
 obtain ⟨j,hj,e2⟩:=fX (core (red b))
 have hl:(core (red a)).length=(core (red b)).length:=by
  have h1:=congrArg List.length e1
  have h2:=congrArg List.length e2
  rw[jq]at h1 h2
  rw[<-h1, <-h2,h]
 have e3:dJ (core (red a)) i=dJ (core (red b)) j:=by rw[<-e1, <-e2,h]
 have back:dJ (dJ (core (red b)) j) ((core (red b)).length - j)=core (red b):=by
  have:=pj ((core (red b)).drop j) ((core (red b)).take j)
  rw[List.length_drop,List.take_append_drop]at this
  exact this
 obtain ⟨t,ht,e4⟩:=pq (c:=core (red a)) (k:=i) (j:=(core (red b)).length - j) hi (by omega)
 exact ⟨t,ht,by rw[<-e4,e3,back]⟩
theorem wW {u:List Nat} (h:(core u).length<u.length): ∃a m z,u=a::(m++[z])/\a=aU z/\core m=core u:=by
 by_cases h2:2<=u.length
 ·obtain ⟨a,m,z,rfl⟩:=qJ h2
  by_cases e:a=aU z
  ·exact ⟨a,m,z,rfl,e,(g_ e).symm⟩
  ·rw[dw e]at h;omega
 ·rw[dz (by omega)]at h;omega
inductive SP:List (Nat×Nat)->List Nat->List (Nat×Nat)->Prop
 | nil {l:List (Nat×Nat)}:SP l [] l
 | cons {l l':List (Nat×Nat)} {k:Nat} {ks:List Nat}:k+1<l.length->SP (gp k l) ks l'->SP l (k::ks) l'
theorem SP.app {a b d:List (Nat×Nat)} {ks ls:List Nat} (h:SP a ks b) (g:SP b ls d):SP a (ks++ls) d:=by
 induction h with
 | nil=>exact g
 | cons h1 _ ih=>exact .cons h1 (ih g)
theorem y_ (a d:List (Nat×Nat)) (p q:Nat×Nat):gp a.length (a++p::q::d)=a++q::p::d:=by
 unfold gp
 have e1:(a++p::q::d)[a.length]? =some p:=by simp
 have e2:(a++p::q::d)[a.length+1]? =some q:=by rw[List.getElem?_append_right (by omega)];simp
 rw[e1,e2]
 show ((a++p::q::d).set a.length q).set (a.length+1) p=_
 rw[List.set_append_right _ _ (Nat.le_refl _),Nat.sub_self,List.set_cons_zero,List.set_append_right _ _ (by omega)]
 simp
noncomputable def gr (place j:Nat):List Nat:=(List.range j).map fun t=>place - 1 - t
theorem tI (place j:Nat) (h:j+1<=place):gr place (j+1)=(place - 1)::gr (place - 1) j:=by
 unfold gr
 rw[List.range_succ_eq_map,List.map_cons,List.map_map]
 congr 1
 refine List.map_congr_left fun t ht=>?_
 show place - 1 - (t+1)=place - 1 - 1 - t
 omega
theorem SP.down (A:List (Nat×Nat)) (x:Nat×Nat): ∀(j:Nat) (M B:List (Nat×Nat)),M.length=j->SP (A++M++x::B) (gr (A.length+j) j) (A++x::M++B)
 | 0,M,B,h=>by
  have:M=[]:=List.length_eq_zero_iff.mp h
  subst this
  have e:A++[]++x::B=A++x::[]++B:=by simp
  rw[e]
  exact .nil
 | j+1,M,B,h=>by
  have hM:M≠[]:=fun z=>by rw[z]at h;simp at h
  have eM:M=M.dropLast++[M.getLast hM]:=(List.dropLast_concat_getLast hM).symm
  have hl:M.dropLast.length=j:=by rw[List.length_dropLast];omega
  generalize M.dropLast=M' at eM hl
  generalize M.getLast hM=z at eM
  subst eM
  rw[tI _ _ (by omega)]
  have hk:A.length+(j+1) - 1=(A++M').length:=by rw[List.length_append,hl];omega
  rw[hk]
  refine .cons (by simp;omega) ?_
  have e1:A++(M'++[z])++x::B=(A++M')++z::x::B:=by simp
  rw[e1,y_]
  have ih:=SP.down A x j M' (z::B) hl
  have e2:(A++M').length=A.length+j:=by rw[List.length_append,hl]
  rw[e2]
  have e3:A++x::(M'++[z])++B=A++x::M'++z::B:=by simp
  rw[e3]
  exact ih
theorem SP.lift {y:List Nat} (hy:Yd y) {l l':List (Nat×Nat)} {ks:List Nat} {j b:Nat} (h:SP l ks l'): ∀{ws:List (List Nat)} {L:fb},(aD y)[j]? =some b->L[j]? =some l->Path y ws L (ks.map fun k=> .swap b k)/\eA y ws L (ks.map fun k=> .swap b k)=(ws,L.set j l'):=by
 induction h with
 | nil=>
  intro ws L hb hl
  exact ⟨trivial,by rw[set_same hl];rfl⟩
 | @cons l l' k ks h1 _ ih=>
  intro ws L hb hl
  have hi:=jv (q9 hy) hb
  have xt:=(List.getElem?_eq_some_iff.mp hl).1
  have eg:L.getD ((aD y).idxOf b) []=l:=by rw[hi];exact bB hl
  have ok:Bg y (aD y) ws L (.swap b k):=⟨List.mem_of_getElem? hb,by rw[eg];exact h1⟩
  have eO:dO (aD y) ws L (.swap b k)=L.set j (gp k l):=by
   show L.set ((aD y).idxOf b) (gp k (L.getD ((aD y).idxOf b) []))=_
   rw[eg,hi]
  obtain ⟨i1,i2⟩:=ih (ws:=ws) (L:=dO (aD y) ws L (.swap b k)) hb (by rw[eO];exact List.getElem?_set_self xt)
  refine ⟨⟨ok,i1⟩,i2.trans ?_⟩
  rw[eO,jw]
theorem SP.perm {l l':List (Nat×Nat)} {ks:List Nat} (h:SP l ks l'):l'.Perm l:=by
 induction h with
 | nil=>exact List.Perm.refl _
 | cons _ _ ih=>exact ih.trans (md _ _)
structure Pq where
 t:Addr
 k:Nat
 x:Nat
noncomputable def Pq.pr (p:Pq):Nat×Nat:=(p.k,p.x)
noncomputable def oj (ps:List Pq):List V:=ps.map fun p=>V.ref p.t
theorem kH (ps:List Pq):(oj ps).length=ps.length:=by unfold oj;rw[List.length_map]
theorem zc (ps:List Pq) (p:Pq):oj ps++[V.ref p.t]=oj (ps++[p]):=by unfold oj;rw[List.map_append];rfl
theorem zd {ps:List Pq} {i:Nat} {x:V} (h:(oj ps)[i]? =some x): ∃p,ps[i]? =some p/\x=V.ref p.t:=by
 unfold oj at h
 rw[List.getElem?_map]at h
 cases e:ps[i]? with
 | none=>rw[e]at h;cases h
 | some p=>rw[e]at h;cases h;exact ⟨p,rfl,rfl⟩
noncomputable def Er (H:Hp) (p:Pq):Prop:=H p.t=some (.tup [.int p.k, .str (S [p.x])])
noncomputable def jx (_:PySem.W.Frag):Sp:=fun vs H Q _=> ∃w:List Nat,vs=[.str (S w)]/\(∀c∈w,Lt c)/\w.length<=12/\
 ∀(t:Addr) (ps:List Pq) (H':Hp),H t=none->H' t=some (.lst (oj ps))->(∀p∈ps,Er H' p)->gz w (ps.map Pq.pr) (red w)->ah H H'->Q (.ref t) H'
theorem mW {K:PySem.W.Frag} {vs:List V} {H:Hp} {Q:VK} {E:XK} (h:jx K vs H Q E):vs.length=1:=by obtain ⟨_,rfl,_⟩:=h;rfl
noncomputable def ml (H:Hp) (Q:VK) (P:List dP->Prop) (n:Nat):Prop:= ∀(t:Addr) (ds:List Dd) (H':Hp),H t=none->H' t=some (.lst (dQ ds))->(∀x∈ds,d_ H' x.a x.e)->P (ds.map Dd.e)->ds.length<=n->ah H H'->Q (.ref t) H'
noncomputable def kj (_:PySem.W.Frag):Sp:=fun vs H Q _=> ∃(y:List Nat) (c:Nat) (w:List Nat),vs=[.int c, .str (S w)]/\(∀c∈w,Lt c)/\w.length<=12/\ml H Q (fun es=>WP y c w es (core (red w))) 100
theorem pK {K:PySem.W.Frag} {vs:List V} {H:Hp} {Q:VK} {E:XK} (h:kj K vs H Q E):vs.length=2:=by obtain ⟨_,_,_,rfl,_⟩:=h;rfl
noncomputable def om (_:PySem.W.Frag):Sp:=fun vs H Q _=> ∃(y:List Nat) (c:Nat) (w:List Nat),vs=[.int c, .str (S w)]/\Yd y/\(∀c∈w,c∈y)/\w.length<=12/\ml H Q (fun es=>WP y c (core (red w)) es w) 100
theorem tJ {K:PySem.W.Frag} {vs:List V} {H:Hp} {Q:VK} {E:XK} (h:om K vs H Q E):vs.length=2:=by obtain ⟨_,_,_,rfl,_⟩:=h;rfl
noncomputable def fF (_:PySem.W.Frag):Sp:=fun vs H Q _=> ∃(a b:List Nat),vs=[.str (S a), .str (S b)]/\a.length<=1000/\(∃t,t<=a.length/\dJ a t=b)/\ ∀t,t<=a.length->dJ a t=b->Q (.int (t:Nat)) H
theorem jy {K:PySem.W.Frag} {vs:List V} {H:Hp} {Q:VK} {E:XK} (h:fF K vs H Q E):vs.length=2:=by obtain ⟨_,_,rfl,_⟩:=h;rfl
noncomputable def jz (_:PySem.W.Frag):Sp:=fun vs H Q _=> ∃(y:List Nat) (c:Nat) (w v:List Nat),vs=[.int c, .str (S w), .str (S v)]/\Yd y/\(∀c∈w,c∈y)/\w.length<=12/\(∀c∈v,c∈y)/\v.length<=12/\az w=az v/\ml H Q (fun es=>WP y c w es v) 1000
theorem mX {K:PySem.W.Frag} {vs:List V} {H:Hp} {Q:VK} {E:XK} (h:jz K vs H Q E):vs.length=3:=by obtain ⟨_,_,_,_,rfl,_⟩:=h;rfl
noncomputable def iA (_:PySem.W.Frag):Sp:=fun vs H Q _=> ∃(b:Nat) (o p:Od),vs=[.str (S [b]), .ref o.o, .ref p.o]/\fZ H o/\fZ H p/\(bg o).Perm (bg p)/\(bg p).Nodup/\ml H Q (fun es=> ∃ks,es=ks.map (fun k=> .swap b k)/\SP (bg o) ks (bg p)) 10000
theorem mn {K:PySem.W.Frag} {vs:List V} {H:Hp} {Q:VK} {E:XK} (h:iA K vs H Q E):vs.length=3:=by obtain ⟨_,_,_,rfl,_⟩:=h;rfl
theorem rf: ∀{ws vs':List (List Nat)},ws.length=vs'.length->((ws.zip vs').map (fun p=>decide (az p.1=az p.2))).all id=decide (ws.map az=vs'.map az)
 | [],[],_=>rfl
 | [],_::_,h=>by cases h
 | _::_,[],h=>by cases h
 | w::ws,v::vs',h=>by
  have ih:=rf (ws:=ws) (vs':=vs') (Nat.succ.inj h)
  rw[List.zip_cons_cons,List.map_cons,List.all_cons,ih]
  by_cases e:az w=az v<;>by_cases g:ws.map az=vs'.map az<;>simp[e,g]
noncomputable def iB (_:PySem.W.Frag):Sp:=fun vs H Q _=> ∃(t u:Addr) (ws vs':List (List Nat)),vs=[.ref t, .ref u]/\H t=some (.tup (bX ws))/\H u=some (.tup (bX vs'))/\ws.length<=4/\vs'.length<=4/\(∀w∈ws,(∀c∈w,Lt c)/\w.length<=12)/\(∀w∈vs',(∀c∈w,Lt c)/\w.length<=12)/\
 ∀H',ah H H'->Q (.bl (decide (ws.map az=vs'.map az))) H'
theorem mq {K:PySem.W.Frag} {vs:List V} {H:Hp} {Q:VK} {E:XK} (h:iB K vs H Q E):vs.length=2:=by obtain ⟨_,_,_,_,rfl,_⟩:=h;rfl
noncomputable def uX (_:PySem.W.Frag):Sp:=fun vs H Q _=> ∃(y:List Nat) (d e:Addr) (ws vs':List (List Nat)) (os ps:List Od),vs=[.str (S y), .ref d, .ref e]/\Yd y/\y.length<=8/\Good y ws (os.map bg)/\Good y vs' (ps.map bg)/\f_ H d ws os/\f_ H e vs' ps/\
 (ws.map az≠vs'.map az-> ∀H',ah H H'->Q .bW H')/\(ws.map az=vs'.map az->ml H Q (fun es=>Path y ws (os.map bg) es/\eA y ws (os.map bg) es=(vs',ps.map bg)) 50000)
theorem ze {K:PySem.W.Frag} {vs:List V} {H:Hp} {Q:VK} {E:XK} (h:uX K vs H Q E):vs.length=3:=by obtain ⟨_,_,_,_,_,_,_,rfl,_⟩:=h;rfl
theorem eZ (ds:List Dd) (x:Dd):dQ ds++[V.ref x.a]=dQ (ds++[x]):=by unfold dQ;rw[List.map_append];rfl
theorem kI (a b:List Dd):dQ a++dQ b=dQ (a++b):=by unfold dQ;rw[List.map_append]
structure fG (H0 H:Hp) (t:Addr) (ds:List Dd):Prop where
 ls:H t=some (.lst (dQ ds))
 de: ∀x∈ds,d_ H x.a x.e
 sm:ah H0 H
theorem fG.push {H0 H H1:Hp} {t a:Addr} {ds:List Dd} {e:dP} (h:fG H0 H t ds) (n:H0 t=none) (s:ah H H1) (ha:d_ H1 a e):fG H0 (upd H1 t (.lst (dQ (ds++[⟨a,e⟩])))) t (ds++[⟨a,e⟩]):=by
 have ht:=s _ _ h.ls
 have tU:=aF.fR (o:=HO.lst (dQ (ds++[⟨a,e⟩]))) ht
 refine ⟨ae,fun x hx=>?_,fun x o ex=>by rw[aq (ak ex n)];exact s _ _ (h.sm _ _ ex)⟩
 rcases List.mem_append.mp hx with g | g
 ·exact ((h.de x g).ts (aF.of s)).ts tU
 ·rw[List.mem_singleton.mp g];exact ha.ts tU
theorem fG.same {H0 H H1:Hp} {t:Addr} {ds:List Dd} (h:fG H0 H t ds) (s:ah H H1):fG H0 H1 t ds:=⟨s _ _ h.ls,fun x hx=>(h.de x hx).ts (aF.of s),h.sm.trans s⟩
theorem rh: ∀(l st:List Nat) {x:Nat},x∈l.foldl b_ st->x∈st\/x∈l
 | [],_,_,h=> .inl h
 | a::l,st,x,h=>by
  rcases rh l (b_ st a) h with g | g
  ·rcases nO g with g | g
   ·exact .inl g
   ·exact .inr (by rw[g];exact List.mem_cons_self)
  ·exact .inr (List.mem_cons_of_mem _ g)
theorem Bj {w:List Nat} {x:Nat} (h:x∈red w):x∈w:=(rh w [] h).resolve_left List.not_mem_nil
theorem mr (c:Nat): ∀l:List Nat,(mj c l).length=2*l.length
 | []=>rfl
 | a::l=>by show (mj c l).length+1+1=2*(l.length+1);rw[mr c l];omega
theorem rj (a:Addr) (c:Nat): ∀n:Nat,(List.replicate n [V.ref a]).flatten=dQ (List.replicate n ⟨a, .turn c⟩)
 | 0=>rfl
 | n+1=>by rw[List.replicate_succ,List.flatten_cons,rj a c n,List.replicate_succ];rfl
theorem zf (p q:Nat×Nat):PyData.eqv (lS p) (lS q)=decide (p=q):=by
 obtain ⟨a,b⟩:=p
 obtain ⟨c,d⟩:=q
 show (decide ((a:Int)=(c:Int))&&(decide ((b:Int)=(d:Int))&&true))=_
 by_cases h1:a=c
 ·by_cases h2:b=d
  ·subst h1;subst h2;simp
  ·rw[decide_eq_false (show ¬(b:Int)=(d:Int) by omega),decide_eq_false (show ¬(a,b)=(c,d) from fun z=>h2 (Prod.mk.inj z).2)];simp
 ·rw[decide_eq_false (show ¬(a:Int)=(c:Int) by omega),decide_eq_false (show ¬(a,b)=(c,d) from fun z=>h1 (Prod.mk.inj z).1)];simp
theorem wX {l:List (Nat×Nat)} {p:Nat×Nat}:p∈l-> ∃j:Nat,l[j]? =some p/\ ∀(m:Nat) (e:Nat×Nat),m<j->l[m]? =some e->e≠p:=by
 intro h
 refine ⟨l.idxOf p,?_,fun m e hm he z=>?_⟩
 ·have:=List.idxOf_lt_length_of_mem h
  rw[List.getElem?_eq_getElem this,List.getElem_idxOf this]
 ·have:=List.not_of_lt_findIdx (p:=fun x=>x==p) hm
  have FE:=(List.getElem?_eq_some_iff.mp he).1
  rw[z]at he
  have e2:=(List.getElem?_eq_some_iff.mp he).2
  rw[e2]at this
  simp at this
theorem HL {α:Type} {l:List α} {i j:Nat} {x:α} (su:i<=j) (hj:l[j]? =some x):l=l.take i++(l.drop i).take (j - i)++x::l.drop (j+1)/\(l.eraseIdx j).take i++x::(l.eraseIdx j).drop i=l.take i++x::(l.drop i).take (j - i)++l.drop (j+1):=by
 have xt:=(List.getElem?_eq_some_iff.mp hj).1
 have e1:l.drop j=x::l.drop (j+1):=by
  rw[List.drop_eq_getElem_cons xt]
  congr 1
  exact (List.getElem?_eq_some_iff.mp hj).2
 have e2:l.drop i=(l.drop i).take (j - i)++l.drop j:=by
  have:=(List.take_append_drop (j - i) (l.drop i)).symm
  rwa [List.drop_drop,show i+(j - i)=j by omega]at this
 have e3:l=l.take i++(l.drop i).take (j - i)++x::l.drop (j+1):=by
  conv=>lhs;rw[<-List.take_append_drop i l,e2,e1]
  rw[List.append_assoc]
 refine ⟨e3,?_⟩
 have hlen:(l.take i++(l.drop i).take (j - i)).length=j:=by rw[List.length_append,List.length_take,List.length_take,List.length_drop];omega
 have e4:l.eraseIdx j=l.take i++(l.drop i).take (j - i)++l.drop (j+1):=by
  conv=>lhs;rw[e3]
  rw[List.eraseIdx_append_of_length_le (by omega),hlen,Nat.sub_self]
  rfl
 rw[e4]
 have Mn:(l.take i).length=i:=by rw[List.length_take];omega
 rw[List.append_assoc,List.take_append_of_le_length (by omega),List.take_of_length_le (by omega),List.drop_append_of_le_length (by omega),List.drop_of_length_le (by omega)]
 simp
theorem tK (place j:Nat):gr place (j+1)=gr place j++[place - 1 - j]:=by unfold gr;rw[List.range_succ,List.map_append];rfl
theorem oq (place j:Nat):(gr place j).length=j:=by unfold gr;rw[List.length_map,List.length_range]
theorem iS {α β:Type} (f:α->β): ∀(l:List α) (i:Nat),(l.map f).eraseIdx i=(l.eraseIdx i).map f
 | [],_=>rfl
 | _::_,0=>rfl
 | x::l,i+1=>by show f x::(l.map f).eraseIdx i=f x::(l.eraseIdx i).map f;rw[iS f l i]
noncomputable def eB (cur:List Pr) (i j:Nat) (p:Pr):List Pr:=(cur.eraseIdx j).take i++p::(cur.eraseIdx j).drop i
theorem rk (cur:List Pr) (i j:Nat) (p:Pr):((bR cur).eraseIdx j).take i++V.ref p.t::((bR cur).eraseIdx j).drop i=bR (eB cur i j p):=by
 unfold bR eB
 rw[iS,List.map_append,List.map_cons,List.map_take,List.map_drop]
theorem pL (cur:List Pr) (i j:Nat) (p:Pr):(eB cur i j p).map Pr.pair=((cur.map Pr.pair).eraseIdx j).take i++p.pair::((cur.map Pr.pair).eraseIdx j).drop i:=by
 unfold eB
 rw[iS,List.map_append,List.map_cons,List.map_take,List.map_drop]
theorem rl {cur:List Pr} {i j:Nat} {p q:Pr} (hp:p∈cur) (h:q∈eB cur i j p):q∈cur:=by
 unfold eB at h
 rcases List.mem_append.mp h with g | g
 ·exact List.mem_of_mem_eraseIdx (List.mem_of_mem_take g)
 ·rcases List.mem_cons.mp g with g | g
  ·rw[g];exact hp
  ·exact List.mem_of_mem_eraseIdx (List.mem_of_mem_drop g)
theorem uY {α:Type} {a b:List α} {j:Nat} {x:α} (ha:j<=a.length) (hb:b[j]? =some x):(a.take j++b.drop j)[j]? =some x:=by
 have hl:(a.take j).length=j:=by rw[List.length_take];omega
 rw[List.getElem?_append_right (by omega),hl,Nat.sub_self,List.getElem?_drop,Nat.add_zero]
 exact hb
theorem uZ {α:Type} {a b:List α} {j:Nat} {x:α} (hb:j<b.length) (ha:a[j]? =some x):(a.take j++b.drop j).set j x=a.take (j+1)++b.drop (j+1):=by
 have hj:=(List.getElem?_eq_some_iff.mp ha).1
 have hl:(a.take j).length=j:=by rw[List.length_take];omega
 rw[List.set_append_right _ _ (by omega),hl,Nat.sub_self,List.drop_eq_getElem_cons hb,List.set_cons_zero,List.take_succ,ha]
 simp
theorem fG.ext {H0 H H1:Hp} {t b:Addr} {ds es:List Dd} (h:fG H0 H t ds) (n:H0 t=none) (s:ah H H1) (he: ∀x∈es,d_ H1 x.a x.e):fG H0 (upd H1 t (.lst (dQ (ds++es)))) t (ds++es):=by
 have ht:=s _ _ h.ls
 have tU:=aF.fR (o:=HO.lst (dQ (ds++es))) ht
 refine ⟨ae,fun x hx=>?_,fun x o ex=>by rw[aq (ak ex n)];exact s _ _ (h.sm _ _ ex)⟩
 rcases List.mem_append.mp hx with g | g
 ·exact ((h.de x g).ts (aF.of s)).ts tU
 ·exact (he x g).ts tU
theorem u3 {os:List Od} {i:Nat} {o:Od} (h:os[i]? =some o):(mV os)[i]? =some (V.ref o.o):=by unfold mV;rw[List.getElem?_map,h];rfl
theorem zg {ws:List (List Nat)} {i:Nat} {w:List Nat} (h:ws[i]? =some w):(bX ws)[i]? =some (V.str (S w)):=by unfold bX;rw[List.getElem?_map,h];rfl
structure Dw where
 a:Addr
 ws:List (List Nat)
 os:List Od
structure kz (y:List Nat) (rs:List (List Nat)) (H:Hp) (d:Dw):Prop where
 dr:f_ H d.a d.ws d.os
 gd:Good y d.ws (d.os.map bg)
 ne:d.ws≠[]
 rg:d.ws.map az=rs
theorem f_.Vl {H H':Hp} {dr:Addr} {ws:List (List Nat)} {os:List Od} (h:f_ H dr ws os) (s:aF H H'):f_ H' dr ws os:=by
 obtain ⟨⟨wt,ot,h1,h2,h3⟩,g⟩:=h
 exact ⟨⟨wt,ot,s _ _ h1,s _ _ h2,s _ _ h3⟩,fun o ho=>(g o ho).ts s⟩
theorem kz.ts {y:List Nat} {rs:List (List Nat)} {H H':Hp} {d:Dw} (h:kz y rs H d) (s:aF H H'):kz y rs H' d:=⟨h.dr.Vl s,h.gd,h.ne,h.rg⟩
theorem kz.same {y:List Nat} {rs:List (List Nat)} {H H':Hp} {d:Dw} (h:kz y rs H d) (s:ah H H'):kz y rs H' d:=h.ts (aF.of s)
noncomputable def xv (ds:List Dw):List V:=ds.map fun d=>V.ref d.a
theorem Bk (ds:List Dw):(xv ds).length=ds.length:=List.length_map ..
theorem rn (ds:List Dw) (d:Dw):xv ds++[V.ref d.a]=xv (ds++[d]):=by unfold xv;rw[List.map_append];rfl
noncomputable def Ce (ws:List (List Nat)) (L:fb):PyData:= .tuple [.tuple (ph ws), .tuple (L.map fun l=> .tuple (l.map lS))]
theorem u4 (os:List Od):os.map JT=(os.map bg).map fun l=>PyData.tuple (l.map lS):=by rw[List.map_map];rfl
theorem ou {K:PySem.W.Frag} {H:Hp} {dr:Addr} {ws:List (List Nat)} {os:List Od} (h:f_ H dr ws os):mI K H (.ref dr) (Ce ws (os.map bg)):=by
 obtain ⟨⟨wt,ot,h1,h2,h3⟩,hO⟩:=h
 unfold Ce
 rw[<-u4]
 exact .tup (aW.of h1) (.cons (.tup (aW.of h2) (jo _)) (.cons (.tup (aW.of h3) (qR hO)) .nil))
theorem zh {y:List Nat} {H:Hp} {dr:Addr} {ws:List (List Nat)} {os:List Od} (hy:Yd y) (hz:y.length<=8) (h:f_ H dr ws os) (g:Good y ws (os.map bg)):xq 40 100000 (Ce ws (os.map bg)):=by
 unfold Ce
 rw[<-u4]
 have Cb:=eY hy
 have hl:=g.ln
 rw[List.length_map]at hl
 exact Hr (fun w hw=>⟨fun c hc=>(hy.lt c ((g.gX w hw).1 c hc)).lt,(g.gX w hw).2⟩) g.jQ h.od (by omega)
theorem u5: ∀L:fb,PyData.hasDictAll (L.map fun l=>PyData.tuple (l.map lS))=false
 | []=>rfl
 | l::L=>by show (PyData.hasDictAll (l.map lS)||PyData.hasDictAll (L.map _))=false;rw[lT l,u5 L];rfl
theorem mv: ∀ws:List (List Nat),PyData.hasDictAll (ph ws)=false
 | []=>rfl
 | w::ws=>by show (PyData.hasDict (.str _)||PyData.hasDictAll (ph ws))=false;rw[mv ws];rfl
theorem pM (ws:List (List Nat)) (L:fb):(Ce ws L).hasDict=false:=by
 show (PyData.hasDictAll (ph ws)||(PyData.hasDictAll (L.map _)||false))=false
 rw[mv,u5];rfl
noncomputable def top (i:Nat):Stmt:=PySem.Challenge.pw_mustmeet_k25_whole_roads_put_together.main.body.getD i (.Pass ⟨0,0,0,0⟩)
noncomputable abbrev dA:Stmt:=top 5
noncomputable abbrev cb:Stmt:=top 7
noncomputable abbrev hW:Stmt:=top 8
noncomputable abbrev dB:Stmt:=top 10
noncomputable abbrev eI:Stmt:=top 11
noncomputable abbrev fH:Stmt:=top 12
noncomputable abbrev hZ:Stmt:=top 13
noncomputable abbrev eJ:Stmt:=top 14
noncomputable abbrev eK:Stmt:=top 15
noncomputable abbrev jZ:Stmt:=top 16
noncomputable abbrev cX:Stmt:=top 18
noncomputable abbrev dD:Stmt:=top 19
noncomputable abbrev j0:Stmt:=top 20
noncomputable abbrev eN:Stmt:=top 21
noncomputable abbrev cY:Stmt:=top 23
noncomputable abbrev dE:Stmt:=top 24
noncomputable abbrev fI:Stmt:=top 25
noncomputable abbrev bS:Stmt:=top 26
noncomputable abbrev cZ:Stmt:=top 27
noncomputable abbrev cD:Stmt:=top 28
noncomputable abbrev cE:Stmt:=top 29
noncomputable abbrev j3:Stmt:=top 30
noncomputable abbrev cF:Stmt:=top 32
noncomputable abbrev cG:Stmt:=top 33
noncomputable abbrev cq:Stmt:=top 34
noncomputable abbrev cf:Stmt:=top 35
noncomputable abbrev j4:Stmt:=top 37
noncomputable abbrev h7:Stmt:=top 38
noncomputable abbrev fJ:Stmt:=top 39
noncomputable abbrev h_:Stmt:=top 40
noncomputable abbrev ia:Stmt:=top 41
noncomputable abbrev fK:Stmt:=top 42
noncomputable abbrev fL:Stmt:=top 43
noncomputable abbrev dF:Stmt:=top 44
noncomputable abbrev fM:Stmt:=top 45
noncomputable abbrev ib:Stmt:=top 46
noncomputable abbrev ow:Stmt:=top 47
structure bq (K:PySem.W.Frag) (mg:Str->Option Value) (x:Str) (st:Stmt) (ps:List Str) (f:Addr) (fd:FuncData):Prop where
 fn:Fv K x x st f fd
 mg:mg x=some (.ref f)
 bd:Binds K fd ps []
structure Txt (K:PySem.W.Frag) (mg:Str->Option Value) (f0 f1 f2 f3 f4 f5 f6 f7 f8 f9 Cf Cg Ci Cj Ck Cm Cn Co Cp Cq Cr Cs Ct Cu Cv Cw Cy Cz CA CB CC CD CF CG CH CI CJ:Addr) (d0 d1 d2 d3 d4 d5 d6 d7 d8 d9 JZ J0 J3 J4 J5 J6 J9 J_ Ka Kb Kc Kd Ke Kf Kg Es zV Kh Ki Kj Kk Kl Km Kn Ko Et Eu:FuncData):Prop where
 F0:bq K mg "contrary" dA ["letter"] f0 d0
 F1:bq K mg "foreign_sign" cb ["yard","text"] f1 d1
 F2:bq K mg "bands" hW ["yard"] f2 d2
 F3:bq K mg "renumber" dB ["orders","cord","places"] f3 d3
 F4:bq K mg "do_swap" eI ["orders","band","number"] f4 d4
 F5:bq K mg "do_out" fH ["words","orders","cord","place"] f5 d5
 F6:bq K mg "do_in" hZ ["words","orders","cord","place","letter","number"] f6 d6
 F7:bq K mg "do_turn" eJ ["words","orders","cord"] f7 d7
 F8:bq K mg "do_deed" eK ["yard","words","orders","deed"] f8 d8
 F9:bq K mg "done" jZ ["yard","drawing","deeds"] f9 d9
 wY:bq K mg "shortened" cX ["word"] Cf JZ
 pN:bq K mg "shortest" dD ["word"] Cg J0
 rH:bq K mg "ring" j0 ["word"] Ci J3
 Ew:bq K mg "are_one" eN ["one","other"] Cj J4
 zW:bq K mg "pairs_out" cY ["word"] Ck J5
 Ex:bq K mg "way_down" dE ["cord","word"] Cm J6
 Ey:bq K mg "way_up" fI ["cord","word"] Cn J9
 Ez:bq K mg "turns_between" bS ["one","other"] Co J_
 EA:bq K mg "word_road" cZ ["cord","one","other"] Cp Ka
 EB:bq K mg "order_road" cD ["band","one","other"] Cq Kb
 EC:bq K mg "same_cords" cE ["one","other"] Cr Kc
 ED:bq K mg "road" j3 ["yard","one","other"] Cs Kd
 EE:bq K mg "strands_in" cF ["words","band"] Ct Ke
 EF:bq K mg "look_words" cG ["yard","words"] Cu Kf
 EG:bq K mg "look_orders" cq ["yard","words","orders"] Cv Kg
 EH:bq K mg "look_drawing" cf ["yard","drawing"] Cw Es
 wZ:bq K mg "_law_box" j4 ["_law_script","_law_k"] Cy zV
 dU:bq K mg "_law_take" h7 ["_law_box_here","_law_many"] Cz Kh
 rJ:bq K mg "_law_other" fJ ["_law_letter"] CA Ki
 EI:bq K mg "_law_yard" h_ ["_law_box_here","_law_few","_law_top"] CB Kj
 EJ:bq K mg "_law_word" ia ["_law_box_here","_law_yard_here","_law_top"] CC Kk
 EK:bq K mg "_law_order" fK ["_law_box_here","_law_things"] CD Kl
 zX:bq K mg "_law_bands" fL ["_law_yard_here"] CF Km
 EL:bq K mg "_law_drawing" dF ["_law_box_here","_law_yard_here","_law_words_here"] CG Kn
 EM:bq K mg "_law_words" fM ["_law_box_here","_law_yard_here"] CH Ko
 EN:bq K mg "_law_deed" ib ["_law_box_here","_law_yard_here","_law_drawing_here"] CI Et
 Kp:bq K mg "law" ow ["_law_script"] CJ Eu
 z_all:mg "all"=none
 z_enumerate:mg "enumerate"=none
 z_int:mg "int"=none
 z_len:mg "len"=none
 z_list:mg "list"=none
 z_max:mg "max"=none
 z_min:mg "min"=none
 z_range:mg "range"=none
 z_reversed:mg "reversed"=none
 z_sorted:mg "sorted"=none
 z_tuple:mg "tuple"=none
 z_zip:mg "zip"=none
theorem rp:aL ["letter"] ["letter"] (aj dA):=⟨rfl,rfl,rfl,by decide+kernel,rfl,by decide+kernel,by decide+kernel⟩
theorem ee:aL ["yard","text","at","sign"] ["yard","text"] (aj cb):=⟨rfl,rfl,rfl,by decide+kernel,rfl,by decide+kernel,by decide+kernel⟩
theorem zi:aL ["yard"] ["yard"] (aj hW):=⟨rfl,rfl,rfl,by decide+kernel,rfl,by decide+kernel,by decide+kernel⟩
theorem ff:aL ["orders","cord","places","band","kept","strand"] ["orders","cord","places"] (aj dB):=⟨rfl,rfl,rfl,by decide+kernel,rfl,by decide+kernel,by decide+kernel⟩
theorem iT:aL ["orders","band","number","order","strand"] ["orders","band","number"] (aj eI):=⟨rfl,rfl,rfl,by decide+kernel,rfl,by decide+kernel,by decide+kernel⟩
theorem oA:aL ["words","orders","cord","place","word"] ["words","orders","cord","place"] (aj fH):=⟨rfl,rfl,rfl,by decide+kernel,rfl,by decide+kernel,by decide+kernel⟩
theorem mw:aL ["words","orders","cord","place","letter","number","word","order"] ["words","orders","cord","place","letter","number"] (aj hZ):=⟨rfl,rfl,rfl,by decide+kernel,rfl,by decide+kernel,by decide+kernel⟩
theorem mx:aL ["words","orders","cord","word"] ["words","orders","cord"] (aj eJ):=⟨rfl,rfl,rfl,by decide+kernel,rfl,by decide+kernel,by decide+kernel⟩
theorem tL:aL ["yard","words","orders","deed"] ["yard","words","orders","deed"] (aj eK):=⟨rfl,rfl,rfl,by decide+kernel,rfl,by decide+kernel,by decide+kernel⟩
theorem gf:aL ["yard","drawing","deeds","words","orders","band","order","number","deed"] ["yard","drawing","deeds"] (aj jZ):=⟨rfl,rfl,rfl,by decide+kernel,rfl,by decide+kernel,by decide+kernel⟩
theorem gg:aL ["word","kept","letter"] ["word"] (aj cX):=⟨rfl,rfl,rfl,by decide+kernel,rfl,by decide+kernel,by decide+kernel⟩
theorem c_:aL ["word","left","start","end"] ["word"] (aj dD):=⟨rfl,rfl,rfl,by decide+kernel,rfl,by decide+kernel,by decide+kernel⟩
theorem ic:aL ["word","whole","least","start","begun"] ["word"] (aj j0):=⟨rfl,rfl,rfl,by decide+kernel,rfl,by decide+kernel,by decide+kernel⟩
theorem tM:aL ["one","other"] ["one","other"] (aj eN):=⟨rfl,rfl,rfl,by decide+kernel,rfl,by decide+kernel,by decide+kernel⟩
theorem cH:aL ["word","taken","place"] ["word"] (aj cY):=⟨rfl,rfl,rfl,by decide+kernel,rfl,by decide+kernel,by decide+kernel⟩
theorem fg:aL ["cord","word","deeds","size"] ["cord","word"] (aj dE):=⟨rfl,rfl,rfl,by decide+kernel,rfl,by decide+kernel,by decide+kernel⟩
theorem fN:aL ["cord","word","deeds","left","letter","pair"] ["cord","word"] (aj fI):=⟨rfl,rfl,rfl,by decide+kernel,rfl,by decide+kernel,by decide+kernel⟩
theorem dG:aL ["one","other","turns"] ["one","other"] (aj bS):=⟨rfl,rfl,rfl,by decide+kernel,rfl,by decide+kernel,by decide+kernel⟩
theorem jA:aL ["cord","one","other","turns"] ["cord","one","other"] (aj cZ):=⟨rfl,rfl,rfl,by decide+kernel,rfl,by decide+kernel,by decide+kernel⟩
theorem bV:aL ["band","one","other","deeds","order","number","strand","place","back"] ["band","one","other"] (aj cD):=⟨rfl,rfl,rfl,by decide+kernel,rfl,by decide+kernel,by decide+kernel⟩
theorem mY:aL ["one","other"] ["one","other"] (aj cE):=⟨rfl,rfl,rfl,by decide+kernel,rfl,by decide+kernel,by decide+kernel⟩
theorem gh:aL ["yard","one","other","deeds","cord","word","between","number","band"] ["yard","one","other"] (aj j3):=⟨rfl,rfl,rfl,by decide+kernel,rfl,by decide+kernel,by decide+kernel⟩
theorem cw:aL ["words","band","found","cord","word","place","letter"] ["words","band"] (aj cF):=⟨rfl,rfl,rfl,by decide+kernel,rfl,by decide+kernel,by decide+kernel⟩
theorem fo:aL ["yard","words","number","word"] ["yard","words"] (aj cG):=⟨rfl,rfl,rfl,by decide+kernel,rfl,by decide+kernel,by decide+kernel⟩
theorem dj:aL ["yard","words","orders","names","number","band"] ["yard","words","orders"] (aj cq):=⟨rfl,rfl,rfl,by decide+kernel,rfl,by decide+kernel,by decide+kernel⟩
theorem kA:aL ["yard","drawing"] ["yard","drawing"] (aj cf):=⟨rfl,rfl,rfl,by decide+kernel,rfl,by decide+kernel,by decide+kernel⟩
theorem jB:aL ["_law_script","_law_k","_law_cell","_law_seed"] ["_law_script","_law_k"] (aj j4):=⟨rfl,rfl,rfl,by decide+kernel,rfl,by decide+kernel,by decide+kernel⟩
theorem my:aL ["_law_box_here","_law_many","_law_digit","_law_one"] ["_law_box_here","_law_many"] (aj h7):=⟨rfl,rfl,rfl,by decide+kernel,rfl,by decide+kernel,by decide+kernel⟩
theorem j5:aL ["_law_letter","_law_small","_law_capital"] ["_law_letter"] (aj fJ):=⟨rfl,rfl,rfl,by decide+kernel,rfl,by decide+kernel,by decide+kernel⟩
theorem dR:aL ["_law_box_here","_law_few","_law_top","_law_left","_law_ends","_law_k","_law_letter","_law_found"] ["_law_box_here","_law_few","_law_top"] (aj h_):=⟨rfl,rfl,rfl,by decide+kernel,rfl,by decide+kernel,by decide+kernel⟩
theorem zj:aL ["_law_box_here","_law_yard_here","_law_top"] ["_law_box_here","_law_yard_here","_law_top"] (aj ia):=⟨rfl,rfl,rfl,by decide+kernel,rfl,by decide+kernel,by decide+kernel⟩
theorem j6:aL ["_law_box_here","_law_things","_law_left","_law_found"] ["_law_box_here","_law_things"] (aj fK):=⟨rfl,rfl,rfl,by decide+kernel,rfl,by decide+kernel,by decide+kernel⟩
theorem w4:aL ["_law_yard_here"] ["_law_yard_here"] (aj fL):=⟨rfl,rfl,rfl,by decide+kernel,rfl,by decide+kernel,by decide+kernel⟩
theorem dc:aL ["_law_box_here","_law_yard_here","_law_words_here","_law_orders","_law_band","_law_some","_law_c","_law_word_here"] ["_law_box_here","_law_yard_here","_law_words_here"] (aj dF):=⟨rfl,rfl,rfl,by decide+kernel,rfl,by decide+kernel,by decide+kernel⟩
theorem eP:aL ["_law_box_here","_law_yard_here","_law_left","_law_found","_law_k","_law_word_here"] ["_law_box_here","_law_yard_here"] (aj fM):=⟨rfl,rfl,rfl,by decide+kernel,rfl,by decide+kernel,by decide+kernel⟩
theorem cg:aL ["_law_box_here","_law_yard_here","_law_drawing_here","_law_words_here","_law_orders","_law_form","_law_names","_law_c","_law_some","_law_d","_law_word_here","_law_x","_law_k","_law_wide"] ["_law_box_here","_law_yard_here","_law_drawing_here"] (aj ib):=⟨rfl,rfl,rfl,by decide+kernel,rfl,by decide+kernel,by decide+kernel⟩
theorem cM:aL ["_law_script","_law_box_here","_law_yard_here","_law_words_here","_law_first","_law_stops","_law_turn","_law_here","_law_k","_law_rings","_law_goal","_law_told","_law_deed_here"] ["_law_script"] (aj ow):=⟨rfl,rfl,rfl,by decide+kernel,rfl,by decide+kernel,by decide+kernel⟩
section
variable {P:Program} {w:World} {K:PySem.W.Frag} {mg:Str->Option Value} {base:Heap} {f0 f1 f2 f3 f4 f5 f6 f7 f8 f9 Cf Cg Ci Cj Ck Cm Cn Co Cp Cq Cr Cs Ct Cu Cv Cw Cy Cz CA CB CC CD CF CG CH CI CJ:Addr} {d0 d1 d2 d3 d4 d5 d6 d7 d8 d9 JZ J0 J3 J4 J5 J6 J9 J_ Ka Kb Kc Kd Ke Kf Kg Es zV Kh Ki Kj Kk Kl Km Kn Ko Et Eu:FuncData}
variable (T:Txt K mg f0 f1 f2 f3 f4 f5 f6 f7 f8 f9 Cf Cg Ci Cj Ck Cm Cn Co Cp Cq Cr Cs Ct Cu Cv Cw Cy Cz CA CB CC CD CF CG CH CI CJ d0 d1 d2 d3 d4 d5 d6 d7 d8 d9 JZ J0 J3 J4 J5 J6 J9 J_ Ka Kb Kc Kd Ke Kf Kg Es zV Kh Ki Kj Kk Kl Km Kn Ko Et Eu)
include T
theorem kB:bQ P w K mg base fk 1 f1 d1 ["yard","text"] (gm K):=by
 refine T.F1.fn.ok ee (fun vs H Q E h=>jV h) (fun cS A outer s H vs Q E hr h=>?_)
 refine ⟨_,(af (bw PassesOwn.never rfl (gO rfl T.z_enumerate (aa (pv 1) ab)) (cm (n:=2) K rfl rfl (aN (aw (i:=2) ee.nd rfl (Or.inl rfl)) (aN (aw (i:=3) ee.nd rfl (Or.inl rfl)) cj))) (ai (bH (aE AE (pv 3) (pv 0) (by with_unfolding_all rfl)) (ai (aH (pv 2))) a_)))
   (ai (aH jI))),?_⟩
 obtain ⟨y,w,rfl,hw,q⟩:=h
 refine ⟨_,rfl,w,rfl,?_⟩
 refine jg (fun i σ H'=> ∃av sv:Option V,σ=[some (.str (S y)),some (.str (S w)),av,sv]/\ah H H') ⟨none,none,rfl,ah.refl H⟩ ?_ ?_
 ·rintro i c σ H1 T hc ⟨av,sv,rfl,s1⟩ nT
  refine ⟨T,_,rfl,aW.of ae,rfl,_,_,rfl,_,_,rfl,rfl,?_⟩
  refine ⟨_,rfl,_,rfl,c,y,rfl,rfl,_,rfl,dq (by simp[hw c (List.mem_of_getElem? hc)]) ?_⟩
  exact ⟨_,_,rfl,s1.trans (ah.upd nT)⟩
 ·rintro σ H1 ⟨av,sv,rfl,s1⟩
  exact q _ s1
theorem mZ:bQ P w K mg base fk 2 Cu Kf ["yard","words"] (iy K):=by
 have mz:=kB (P:=P) (w:=w) (base:=base) T
 refine T.EF.fn.ok fo (fun vs H Q E h=>lV h) (fun cS A outer s H vs Q E hr h=>?_)
 refine ⟨_,(ai (bw PassesOwn.never rfl (fA K rfl rfl T.z_enumerate (aa (pv 1) ab)) (cm (n:=2) K rfl rfl (aN (aw (i:=2) fo.nd rfl (Or.inl rfl)) (aN (aw (i:=3) fo.nd rfl (Or.inl rfl)) cj))) (ai (bH (aE ue (ao mz (hr.mono (by decide)) rfl T.F1.mg T.F1.fn.kp T.F1.bd .nil aC (aa (pv 0) (aa (pv 3) ab))) jI (aP _)) (ai iY) a_)))),?_⟩
 obtain ⟨y,wt,ws,rfl,tN,hw,q⟩:=h
 refine ⟨_,rfl,wt,rfl,⟨_,aW.of tN⟩,?_⟩
 refine eG (K:=K) (a:=wt) (xs:=bX ws) (fun i σ H'=> ∃av sv:Option V,σ=[some (.str (S y)),some (.ref wt),av,sv]/\ah H H') ⟨none,none,rfl,ah.refl H⟩ (fun i σ H' _ ⟨_,_,_,h⟩=>aW.of (h _ _ tN)) ?_ ?_
 ·rintro i x σ H1 T hx ⟨av,sv,rfl,s1⟩ nT
  have hi:i<ws.length:=by
   have:=(List.getElem?_eq_some_iff.mp hx).1
   rwa [aS]at this
  rw[iL hi]at hx
  cases hx
  refine ⟨T,_,rfl,aW.of ae,rfl,_,_,rfl,_,_,rfl,rfl,?_⟩
  refine ⟨_,rfl,_,rfl,y,ws[i],rfl,hw _ (List.getElem_mem hi),fun H2 s2=>?_⟩
  refine ⟨rfl,_,rfl,dq (by simp) ?_⟩
  exact ⟨_,_,rfl,(s1.trans (ah.upd nT)).trans s2⟩
 ·rintro σ H1 ⟨av,sv,rfl,s1⟩
  exact q _ s1
theorem mB:bQ P w K mg base fk 1 f2 d2 ["yard"] (qO K):=by
 refine T.F2.fn.ok zi (fun vs H Q E h=>wK h) (fun cS A outer s H vs Q E hr h=>?_)
 refine ⟨_,(ai (aH (bf K rfl PySem.F.plainAttrs_str PySem.F.slot_str_join PySem.F.type_str_join (lA K rfl) (dZ [] (by decide+kernel)) (aa (ar (jh K rfl) rfl T.z_sorted boot_sorted (aa (di ["letter"] [none] (oV (pv 0)) trivial (fun _ _ _ _=>(aw (i:=0) (by decide+kernel:List.Nodup (["letter"]:List Str)) rfl (Or.inl rfl))) (fun _ _ _ _=>(jN (oH (eu K rfl PySem.F.plainAttrs_str PySem.F.slot_str_islower PySem.F.type_str_islower la (pv 0))))) (fun _ _ _ _=>(pv 0))) ab)) ab)))),?_⟩
 obtain ⟨l,rfl,hl,hz,q⟩:=h
 have hs:(1000:Nat)<sizeLine:=by decide
 refine ⟨rfl,_,rfl,l,rfl,?_⟩
 refine lr (xs:=bY l) (fun i acc H'=>ah H H'/\acc=bY ((l.take i).filter cn)) (by rw[aQ];omega) ⟨ah.refl H,rfl⟩ ?_ ?_
 ·rintro i x acc H1 Nx hi hx gA ⟨s1,rfl⟩ nx
  obtain ⟨c,hc,rfl⟩:=dH hx
  have e:=ke (p:=cn) hc
  refine ⟨trivial,?_⟩
  refine ⟨_,rfl,rfl,c,rfl,rfl,hl c (List.mem_of_getElem? hc),_,rfl,?_⟩
  refine cO (fun z=>?_) (fun z=>?_)
  ·rw[if_pos z]at e
   exact ⟨_,rfl,nx _ _ (by simpa using gA) ⟨s1,by rw[e, <-eT]⟩⟩
  ·rw[if_neg z,List.append_nil]at e
   exact nx _ _ (Nat.le_succ_of_le gA) ⟨s1,by rw[e]⟩
 ·rintro acc H1 D gA ⟨s1,rfl⟩ hD
  rw[lF,fB]
  have Vm:(l.filter cn).length<=l.length:=List.length_filter_le _ _
  refine ⟨D,(l.filter cn).map fun c=>[c],rfl,aT.of ae,by rw[List.length_map];omega,fun p ls hp hV FH=>?_⟩
  obtain ⟨l',rfl,pl⟩:=ur hV
  have vh:=pl.length_eq
  refine ⟨p,l'.map fun c=>[c],rfl,rfl,aT.of ae,by rw[A6];omega,?_⟩
  rw[uJ]
  exact q l' _ pl (uu FH) ((s1.trans (ah.upd hD)).trans (ah.upd hp))
theorem m4:bQ P w K mg base fk 1 Ct Ke ["words","band"] (iw K):=by
 refine T.EE.fn.ok cw (fun vs H Q E h=>lU h) (fun cS A outer s H vs Q E hr h=>?_)
 refine ⟨_,(af (au (i:=2) cw.nd rfl (Or.inl rfl) (bp ab))
   (af (bw PassesOwn.never rfl (fA K rfl rfl T.z_enumerate (aa (pv 0) ab)) (cm (n:=2) K rfl rfl (aN (aw (i:=3) cw.nd rfl (Or.inl rfl)) (aN (aw (i:=4) cw.nd rfl (Or.inl rfl)) cj))) (ai (bw PassesOwn.never rfl (gO rfl T.z_enumerate (aa (pv 4) ab)) (cm (n:=2) K rfl rfl (aN (aw (i:=5) cw.nd rfl (Or.inl rfl)) (aN (aw (i:=6) cw.nd rfl (Or.inl rfl)) cj))) (ai (bH (aE eQ (eu K rfl PySem.F.plainAttrs_str PySem.F.slot_str_lower PySem.F.type_str_lower gK (pv 6)) (pv 1) (aP _)) (ai (ba (bf K rfl PySem.F.plainAttrs_list PySem.F.slot_list_append PySem.F.type_list_append bt (pv 2) (aa (bI (aa (pv 3) (aa (pv 5) ab))) ab)))) a_)))))
   (ai (aH (pv 2))))),?_⟩
 obtain ⟨wt,ws,band,rfl,tN,hf,hw,hb,q⟩:=h
 have hs:(100000:Nat)<sizeLine:=by decide
 (repeat (first | refine ⟨_,rfl,?_⟩ | refine ⟨_,_,rfl,rfl,?_⟩ | refine ⟨_,_,_,rfl,rfl,by first | assumption | omega,by assumption,?_⟩ | refine ⟨rfl,?_⟩ | refine And.intro (by first | decide | omega | assumption | exact Nat.le_of_ble_eq_true rfl | exact .inl ⟨by decide,by decide⟩ | exact .inr ⟨by decide,by decide⟩ | exact ⟨by decide,by decide⟩ | exact ⟨by omega,by omega⟩) ?_))
 intro p1 n1
 refine ⟨_,rfl,wt,rfl,⟨_,aW.of ((ah.upd n1) _ _ tN)⟩,?_⟩
 refine eG (K:=K) (a:=wt) (xs:=bX ws) (fun j σ H'=> ∃(ps:List Pr) (cv wv pv lv:Option V),σ=[some (.ref wt),some (.str (S [band])),some (.ref p1),cv,wv,pv,lv]/\H' p1=some (.lst (bR ps))/\(∀p∈ps,cU H' p)/\ps.map Pr.pair=bz band ws j/\ps.length<=12*j/\ah H H')
  ⟨[],none,none,none,none,rfl,ae,fun _ h=>absurd h List.not_mem_nil,rfl,Nat.zero_le _,ah.upd n1⟩ (fun j σ H' _ ⟨_,_,_,_,_,_,_,_,_,_,h⟩=>aW.of (h _ _ tN)) ?_ ?_
 ·rintro j x σ H1 T hx ⟨ps,cv,wv,pv,lv,rfl,hp,kl,jC,ig,s1⟩ nT
  have hj:j<ws.length:=by
   have:=(List.getElem?_eq_some_iff.mp hx).1
   rwa [aS]at this
  rw[iL hj]at hx
  cases hx
  have w5:ws[j]? =some ws[j]:=List.getElem?_eq_getElem hj
  obtain ⟨qf,rq⟩:=hw _ (List.getElem_mem hj)
  generalize ws[j]=w at w5 qf rq ⊢
  refine ⟨T,_,rfl,aW.of ae,rfl,_,_,rfl,_,_,rfl,rfl,?_⟩
  have sT:=ah.upd (o:= .tup [.int j, .str (S w)]) nT
  refine ⟨_,rfl,w,rfl,?_⟩
  refine jg (l:=w) (fun m σ H'=> ∃(us:List Pr) (pv lv:Option V),σ=[some (.ref wt),some (.str (S [band])),some (.ref p1),some (.int j),some (.str (S w)),pv,lv]/\H' p1=some (.lst (bR us))/\(∀p∈us,cU H' p)/\us.map Pr.pair=bz band ws j++ef band j w m/\us.length<=12*j+m/\ah H H')
   ⟨ps,pv,lv,rfl,sT _ _ hp,fun p tD=>(kl p tD).same sT,by rw[jC];show _=_++[];rw[List.append_nil],by omega,s1.trans sT⟩ ?_ ?_
  ·rintro m l σ H2 T2 hm ⟨us,Vn,Vo,rfl,kr,xo,zk,FI,s2⟩ Mo
   have Vp:m<w.length:=(List.getElem?_eq_some_iff.mp hm).1
   have CK:=qf l (List.mem_of_getElem? hm)
   have es:=lR (band:=band) (c:=j) hm
   have Kq:=ah.upd (o:= .tup [.int m, .str (S [l])]) Mo
   refine ⟨T2,_,rfl,aW.of ae,rfl,_,_,rfl,_,_,rfl,rfl,?_⟩
   refine ⟨_,rfl,rfl,l,rfl,rfl,CK.lt,_,rfl,[PyProof.Rows.lo1 l],[band],rfl,rfl,_,rfl,?_⟩
   have ev:decide ([PyProof.Rows.lo1 l]=[band])=rG band l:=by rw[<-sZ hb CK];simp
   rw[ev]
   have EO:=Kq _ _ kr
   refine cO (fun z=>?_) (fun z=>?_)
   ·rw[if_pos z]at es
    refine ⟨_,rfl, .inl ⟨rfl,_,aT.of EO⟩,_,rfl,_,rfl,by show 2<=sizeLine;decide,fun t nt=>?_⟩
    have ER:=(ah.upd (o:= .tup [.int j, .int m]) nt) _ _ EO
    have s3:=Kq.trans (ah.upd (o:= .tup [.int j, .int m]) nt)
    refine ⟨p1,_,_,rfl,rfl,ER,by rw[aZ];omega,?_⟩
    refine ⟨us++[⟨t,j,m⟩],_,_,rfl,by rw[ae];exact congrArg (fun x=>some (HO.lst x)) (gU us ⟨t,j,m⟩),fun p tD=>?_,by rw[List.map_append,zk,es,List.append_assoc];rfl,by rw[List.length_append];show us.length+1<=_;omega,fun a o ea=>by rw[aq (ak ea n1)];exact s3 _ _ (s2 a o ea)⟩
    rcases List.mem_append.mp tD with g | g
    ·exact ((xo p g).same s3).ts (aF.fR ER)
    ·have e2:=List.mem_singleton.mp g
     subst e2
     exact cU.ts (H:=upd (upd H2 T2 (.tup [.int m, .str (S [l])])) t (.tup [.int j, .int m])) ⟨ae,by show j<1000;omega,by show m<1000;omega⟩ (aF.fR ER)
   ·rw[if_neg z,List.append_nil]at es
    exact ⟨us,_,_,rfl,EO,fun p tD=>(xo p tD).same Kq,by rw[zk,es],by omega,s2.trans Kq⟩
  ·rintro σ H2 ⟨us,Vn,Vo,rfl,kr,xo,zk,FI,s2⟩
   exact ⟨us,_,_,_,_,rfl,kr,xo,by rw[zk,fe w5],by omega,s2⟩
 ·rintro σ H1 ⟨ps,cv,wv,pv,lv,rfl,hp,kl,jC,ig,s1⟩
  rw[aS]at jC
  exact ⟨_,rfl,q p1 ps H1 n1 hp kl jC s1⟩
theorem mC:bQ P w K mg base fk 2 Cv Kg ["yard","words","orders"] (gW K):=by
 have ie:=mB (P:=P) (w:=w) (base:=base) T
 have pO:=m4 (P:=P) (w:=w) (base:=base) T
 refine T.EG.fn.ok dj (fun vs H Q E h=>ky h) (fun cS A outer s H vs Q E hr h=>?_)
 refine ⟨_,(af (au (i:=3) dj.nd rfl (Or.inl rfl) (ao ie (hr.mono (by decide)) rfl T.F2.mg T.F2.fn.kp T.F2.bd .nil aC (aa (pv 0) ab)))
   (af (bH (aE ya (ar (ax K rfl) rfl T.z_len PySem.boot_len (aa (pv 2) ab)) (ar aX rfl T.z_len PySem.boot_len (aa (pv 3) ab)) (aP _)) (ai iY) a_)
   (ai (bw PassesOwn.never rfl (gO rfl T.z_enumerate (aa (pv 3) ab)) (cm (n:=2) K rfl rfl (aN (aw (i:=4) dj.nd rfl (Or.inl rfl)) (aN (aw (i:=5) dj.nd rfl (Or.inl rfl)) cj))) (ai (bH (aE (lB K rfl hr) (ar (o7 K rfl) rfl T.z_sorted boot_sorted (aa (aB (aG K rfl) (pv 2) (pv 4) (fun _ _=>rfl)) ab)) (ao pO (hr.mono (by decide)) rfl T.EE.mg T.EE.fn.kp T.EE.bd .nil aC (aa (pv 1) (aa (pv 5) ab))) (aP _)) (ai iY) a_)))))),?_⟩
 obtain ⟨y,wt,ot,ws,os,rfl,hy,hz,xw,tN,SN,zY,hex,q⟩:=h
 have hs:(100000:Nat)<sizeLine:=by decide
 have Mp: ∀c∈y,c<128:=Hq hy.lt
 have Cb:=eY hy
 have hlen:os.length=(aD y).length:=hex.1
 have qf: ∀w∈ws,(∀c∈w,Lt c)/\w.length<=12:=fun w hw=>⟨fun c hc=>hy.lt c ((xw.all w hw).1 c hc),(xw.all w hw).2⟩
 refine ⟨_,rfl,y,rfl,Mp,by omega,fun l' H1 vh JU s1=>?_⟩
 have el:=hR vh JU
 subst el
 refine ⟨_,rfl,ot,_,rfl, .inr (aW.of (s1 _ _ SN)),_,rfl,aD y,rfl,by omega,_,_,rfl,rfl,_,rfl,dq (by rw[pw,hlen];simp) ?_⟩
 refine ⟨_,rfl,aD y,rfl,?_⟩
 refine jg (fun i σ H'=> ∃av sv:Option V,σ=[some (.str (S y)),some (.ref wt),some (.ref ot),some (.str (S (aD y))),av,sv]/\ah H H') ⟨none,none,rfl,s1⟩ ?_ ?_
 ·rintro i b σ H2 T hb ⟨av,sv,rfl,s2⟩ nT
  have hi:i<(aD y).length:=(List.getElem?_eq_some_iff.mp hb).1
  have Hx:=qT hy (List.mem_of_getElem? hb)
  have v8:i<os.length:=by omega
  have ho:os[i]? =some os[i]:=List.getElem?_eq_getElem v8
  have iR:=List.getElem_mem v8
  have jC:(os[i].ps.map Pr.pair).Perm (bz b ws ws.length):=hex.2 i _ b ho hb
  generalize os[i]=o at ho iR jC
  have sT:=s2.trans (ah.upd (o:= .tup [.int i, .str (S [b])]) nT)
  refine ⟨T,_,rfl,aW.of ae,rfl,_,_,rfl,_,_,rfl,rfl,?_⟩
  generalize upd H2 T (.tup [.int i, .str (S [b])])=H3 at sT ⊢
  have ok:=(zY o iR).same sT
  have YQ:o.ps.length<=48:=by
   have h1:=iP b (fun w hw=>(xw.all w hw).2) ws.length (Nat.le_refl _)
   rw[<-jC.length_eq,List.length_map]at h1
   have:=xw.jQ
   omega
  refine ⟨_,rfl,_,rfl,ot,_,_,_,rfl,rfl,aW.of (sT _ _ SN),aM (lQ ho),?_⟩
  refine ⟨o.o,bR o.ps,(o.ps.map Pr.pair).map pz,rfl, .inr (aW.of ok.tp),yU ok.pr,HJ (jC.nodup_iff.mpr (gb b ws ws.length)),by rw[aZ];omega,fun qa idx Mq nq=>?_⟩
  obtain ⟨Kr,Vq⟩:=Mq
  rw[List.length_map,List.length_map]at Kr
  have SO: ∀i∈idx,i<o.ps.length:=fun i hi=>List.mem_range.mp (Kr.mem_iff.mp hi)
  rw[Hz o.ps idx SO]
  have HM:(pk o.ps idx).map Pr.pair=bz b ws ws.length:=Bh (((uV Kr).map Pr.pair).trans jC) (Bi SO Vq) (kg b ws ws.length (Nat.le_refl _))
  have Ks: ∀p∈pk o.ps idx,cU H3 p:=fun p hp=>ok.pr p ((uV Kr).mem_iff.mp hp)
  generalize pk o.ps idx=pp at HM Ks ⊢
  have sQ:=sT.trans (ah.upd (o:= .lst (bR pp)) nq)
  refine ⟨_,rfl,_,rfl,wt,ws,b,rfl,sQ _ _ tN,xw.jQ,qf,Hx,fun q2 ps H4 YR Vr kl Bl s4=>?_⟩
  have Vs:=s4 _ _ (ae (H:=H3) (a:=qa) (o:=HO.lst (bR pp)))
  have Mr: ∀p∈pp,cU H4 p:=fun p hp=>(Ks p hp).same ((ah.upd (o:= .lst (bR pp)) nq).trans s4)
  have ly:PyData.canLayAll0 ((pp.map Pr.pair).map lS)=true:=(hU (k:=0) Ks).ly
  have dp:(PyData.list ((pp.map Pr.pair).map lS)).depth<=60:=Nat.le_trans (Nat.succ_le_succ (hU (k:=0) Ks).dp) (by decide)
  refine ⟨.list ((pp.map Pr.pair).map lS), .list ((pp.map Pr.pair).map lS), .lst (aT.of Vs) (fE Mr), .lst (aT.of Vr) (by rw[HM, <-Bl];exact fE kl),⟨ly,ly⟩,dp,?_⟩
  rw[eqv_refl _ (by show PyData.hasDictAll _=false;exact lT _)]
  refine ⟨_,rfl,dq rfl ?_⟩
  exact ⟨_,_,rfl,sQ.trans s4⟩
 ·rintro σ H2 ⟨av,sv,rfl,s2⟩
  exact q _ s2
theorem kC:bQ P w K mg base fk 3 Cw Es ["yard","drawing"] (gq K):=by
 have pP:=mZ (P:=P) (w:=w) (base:=base) T
 have m5:=mC (P:=P) (w:=w) (base:=base) T
 refine T.EH.fn.ok kA (fun vs H Q E h=>jX h) (fun cS A outer s H vs Q E hr h=>?_)
 refine ⟨_,(af (ba (ao pP (hr.mono (by decide)) rfl T.EF.mg T.EF.fn.kp T.EF.bd .nil aC (aa (pv 0) (aa (aB (aG K rfl) (pv 1) ag (fun _ _=>rfl)) ab))))
   (af (ba (ao m5 (hr.mono (by decide)) rfl T.EG.mg T.EG.fn.kp T.EG.bd .nil aC (aa (pv 0) (aa (aB (aG K rfl) (pv 1) ag (fun _ _=>rfl)) (aa (aB (aG K rfl) (pv 1) ag (fun _ _=>rfl)) ab)))))
   (ai (aH fc)))),?_⟩
 obtain ⟨y,dr,ws,os,rfl,hy,hz,xw,hd,hex,q⟩:=h
 obtain ⟨⟨wt,ot,d1,d2,d3⟩,dO⟩:=hd
 refine ⟨_,rfl,_,rfl,dr,_,0,_,rfl,rfl,aW.of d1,rfl,?_⟩
 refine ⟨y,wt,ws,rfl,d2,fun w hw=>(xw.all w hw).1,fun H1 s1=>?_⟩
 refine ⟨_,rfl,_,rfl,dr,_,0,_,rfl,rfl,aW.of (s1 _ _ d1),rfl,_,rfl,dr,_,1,_,rfl,rfl,aW.of (s1 _ _ d1),rfl,?_⟩
 refine ⟨y,wt,ot,ws,os,rfl,hy,hz,xw,s1 _ _ d2,s1 _ _ d3,fun o ho=>(dO o ho).same s1,hex,fun H2 s2=>?_⟩
 exact q _ (s1.trans s2)
theorem df:bQ P w K mg base fk 1 f0 d0 ["letter"] (kc K):=by
 refine T.F0.fn.ok rp (fun vs H Q E h=>o9 h) (fun cS A outer s H vs Q E hr h=>?_)
 refine ⟨_,(af (bH (oH (eu K rfl PySem.F.plainAttrs_str PySem.F.slot_str_islower PySem.F.type_str_islower la (pv 0))) (ai (aH (eu K rfl PySem.F.plainAttrs_str PySem.F.slot_str_upper PySem.F.type_str_upper xY (pv 0)))) a_)
   (ai (aH (eu K rfl PySem.F.plainAttrs_str PySem.F.slot_str_lower PySem.F.type_str_lower gK (pv 0))))),?_⟩
 obtain ⟨c,rfl,hc,q⟩:=h
 refine ⟨_,rfl,rfl,c,rfl,rfl,hc,_,rfl,cO (fun e=>?_) (fun e=>?_)⟩
 ·refine ⟨_,rfl,rfl,c,rfl,rfl,hc,?_⟩
  have z:aU c=PyProof.Rows.up1 c:=if_pos e
  rw[<-z]
  exact q
 ·refine ⟨_,rfl,rfl,c,rfl,rfl,hc,?_⟩
  have z:aU c=PyProof.Rows.lo1 c:=if_neg e
  rw[<-z]
  exact q
theorem gi:bQ P w K mg base fk 2 Cf JZ ["word"] (jn K):=by
 have bM:=df (P:=P) (w:=w) (base:=base) T
 refine T.wY.fn.ok gg (fun vs H Q E h=>mU h) (fun cS A outer s H vs Q E hr h=>?_)
 refine ⟨_,(af (au (i:=1) gg.nd rfl (Or.inl rfl) (bp ab))
   (af (bw PassesOwn.never rfl (oV (pv 0)) (aw (i:=2) gg.nd rfl (Or.inl rfl)) (ai (bH (PW.pt (gC (AJ K rfl (pv 1)) (g7 (aE eQ (aB (aV K rfl) (pv 1) (xH rO ag) (fun _ _=>rfl)) (ao bM (hr.mono (by decide)) rfl T.F0.mg T.F0.fn.kp T.F0.bd .nil aC (aa (pv 2) ab)) (aP _))))) (ai (ba (eu K rfl PySem.F.plainAttrs_list PySem.F.slot_list_pop PySem.F.type_list_pop DB (pv 1)))) (ai (ba (bf K rfl PySem.F.plainAttrs_list PySem.F.slot_list_append PySem.F.type_list_append bt (pv 1) (aa (pv 2) ab)))))))
   (ai (aH (bf K rfl PySem.F.plainAttrs_str PySem.F.slot_str_join PySem.F.type_str_join (lA K rfl) (dZ [] (by decide+kernel)) (aa (pv 1) ab)))))),?_⟩
 obtain ⟨l,rfl,hl,hz,q⟩:=h
 have hs:(100000:Nat)<sizeLine:=by decide
 (repeat (first | refine ⟨_,rfl,?_⟩ | refine ⟨_,_,rfl,rfl,?_⟩ | refine ⟨rfl,?_⟩ | refine And.intro (by first | decide | omega | assumption | exact Nat.le_of_ble_eq_true rfl | exact .inl ⟨by decide,by decide⟩ | exact .inr ⟨by decide,by decide⟩ | exact ⟨by decide,by decide⟩ | exact ⟨by omega,by omega⟩) ?_))
 intro p1 n1
 refine ⟨_,rfl,l,rfl,?_⟩
 refine ui (xs:=bY l) (fun i σ H'=> ∃lv,σ=[some (.str (S l)),some (.ref p1),lv]/\H' p1=some (.lst (bY (red (l.take i))))/\aI p1 H H') ⟨none,rfl,ae,aI.of (ah.upd n1)⟩ ?_ ?_
 ·rintro i x σ H1 hx ⟨lv,rfl,hp,s1⟩
  obtain ⟨c,hc,rfl⟩:=dH hx
  have hi:i<l.length:=(List.getElem?_eq_some_iff.mp hc).1
  have h8:c<128:=(hl c (List.mem_of_getElem? hc)).lt
  have nL:(red (l.take i)).length<=1000:=Nat.le_trans (fU _) (by rw[List.length_take];omega)
  have fin: ∀st,st=b_ (red (l.take i)) c-> ∃lv,[some (V.str (S l)),some (V.ref p1),some (V.str (S [c]))]=[some (V.str (S l)),some (.ref p1),lv]/\(upd H1 p1 (.lst (bY st))) p1=some (.lst (bY (red (l.take (i+1)))))/\aI p1 H (upd H1 p1 (.lst (bY st))):=fun st e=>
   ⟨_,rfl,by rw[ae,yF hc,e],fun b o e z=>by rw[aq z];exact s1 b o e z⟩
  refine ⟨_,rfl,p1,_,rfl,aT.of hp,?_⟩
  rcases snoc_cases (red (l.take i)) with e | ⟨m,a,e⟩
  ·rw[e]at hp ⊢
   refine dq rfl ?_
   refine vD ?_
   refine ⟨_,rfl, .inl ⟨rfl,_,aT.of hp⟩,_,rfl,p1,_,_,rfl,rfl,hp,by rw[aQ];exact (by decide:(0:Nat)<sizeLine),?_⟩
   rw[eT]
   refine fin _ ?_
   rw[e]
   unfold b_
   rw[if_neg (by simp)]
  ·rw[e]at hp nL ⊢
   have FE:m.length<=1000:=by simp at nL;omega
   rw[<-eT]at hp ⊢
   refine fT (by simp) ?_
   refine ⟨_,rfl,_,rfl,p1,_,_,_,rfl,rfl,aT.of hp,qd _ _,_,rfl,c,rfl,h8,[a],[aU c],rfl,rfl,_,rfl,cO (fun z=>?_) (fun z=>?_)⟩
   ·have ea:a=aU c:=by simpa using of_decide_eq_true z
    refine ⟨_,rfl, .inl ⟨rfl,_,aT.of hp⟩,p1,_,V.str (S [a]),rfl,rfl,hp,by simp,?_⟩
    rw[List.dropLast_concat]
    refine fin _ ?_
    rw[e]
    unfold b_
    rw[if_pos (by simp[ea]),List.dropLast_concat]
   ·have ea:a≠aU c:=fun w=>z (decide_eq_true (by rw[w]))
    refine ⟨_,rfl, .inl ⟨rfl,_,aT.of hp⟩,_,rfl,p1,_,_,rfl,rfl,hp,by rw[List.length_append,aQ];show m.length+1<sizeLine;omega,?_⟩
    rw[eT,eT]
    refine fin _ ?_
    rw[e]
    unfold b_
    rw[if_neg (by simpa using ea)]
 ·rintro σ H1 ⟨lv,rfl,hp,s1⟩
  rw[lF]at hp
  refine ⟨rfl,_,rfl,p1,(red l).map fun c=>[c],rfl,rfl,aT.of (by rw[<-fB];exact hp),?_,?_⟩
  ·rw[A6]
   have:=fU l
   omega
  ·rw[uJ]
   exact q _ (fun b o e=>s1 b o e (ak e n1))
theorem fh:bQ P w K mg base fk 3 Cg J0 ["word"] (kd K):=by
 have dS:=gi (P:=P) (w:=w) (base:=base) T
 have bM:=df (P:=P) (w:=w) (base:=base) T
 refine T.pN.fn.ok c_ (fun vs H Q E h=>pf h) (fun cS A outer s H vs Q E hr h=>?_)
 refine ⟨_,(af (au (i:=1) c_.nd rfl (Or.inl rfl) (ao dS (hr.mono (by decide)) rfl T.wY.mg T.wY.fn.kp T.wY.bd .nil aC (aa (pv 0) ab)))
   (af (au (i:=2) c_.nd rfl (Or.inl rfl) ag)
   (af (au (i:=3) c_.nd rfl (Or.inl rfl) (ar aX rfl T.z_len PySem.boot_len (aa (pv 1) ab)))
   (af (eF PassesOwn.never (PW.pt (gC (aE BS (aA cK (pv 3) (pv 2)) ag (aP _)) (g7 (aE eQ (aB jO (pv 1) (pv 2) (fun _ _=>rfl)) (ao bM (hr.mono (by decide)) rfl T.F0.mg T.F0.fn.kp T.F0.bd .nil aC (aa (aB jO (pv 1) (aA cK (pv 3) ag) (fun _ _=>rfl)) ab)) (aP _))))) (af (kO (i:=2) c_.nd rfl (Or.inl rfl) ag rL)
   (ai (kO (i:=3) c_.nd rfl (Or.inl rfl) ag xG))))
   (ai (aH (bT jc (pv 1) (ck (pv 2)) (ck (pv 3))))))))),?_⟩
 obtain ⟨l,rfl,hl,hz,q⟩:=h
 have hs:(100000:Nat)<sizeLine:=by decide
 refine ⟨_,rfl,l,rfl,hl,hz,fun H1 s1=>?_⟩
 have SQ:=fU l
 have cN:=o_ hl
 generalize red l=r at SQ cN q ⊢
 have SR:r.length<=sizeLine:=by omega
 (repeat (first | refine ⟨_,rfl,?_⟩ | refine ⟨_,_,rfl,rfl,?_⟩ | refine ⟨rfl,?_⟩ | refine And.intro (by first | decide | omega | assumption | exact Nat.le_of_ble_eq_true rfl | exact .inl ⟨by decide,by decide⟩ | exact .inr ⟨by decide,by decide⟩ | exact ⟨by decide,by decide⟩ | exact ⟨by omega,by omega⟩) ?_))
 refine ⟨fun m σ H'=> ∃(a e:Nat),σ=[some (.str (S l)),some (.str (S r)),some (.int a),some (.int e)]/\m=e - a/\a<=e/\e<=r.length/\core (xu r a e)=core r/\H'=H1,⟨_,0,r.length,rfl,rfl,Nat.zero_le _,Nat.le_refl _,by rw[A_],rfl⟩,?_⟩
 rintro m σ H2 ⟨a,e,rfl,rfl,h1,h2,hc,rfl⟩
 have fin:core (xu r a e)=xu r a e->Q (.str (S (cut r (some (a:Int)) (some (e:Int))))) H2:=fun z=>by
  have e1:cut r (some (a:Int)) (some (e:Int))=xu r a e:=by
   unfold cut xu
   rw[HT.kE,HT.kE]
   have e1:min a r.length=a:=by omega
   have e2:min e r.length=e:=by omega
   rw[e1,e2]
  rw[e1, <-z,hc]
  exact q H2 s1
 (repeat (first | refine ⟨_,rfl,?_⟩ | refine ⟨_,_,rfl,rfl,?_⟩ | refine ⟨rfl,?_⟩ | refine And.intro (by first | decide | omega | assumption | exact Nat.le_of_ble_eq_true rfl | exact .inl ⟨by decide,by decide⟩ | exact .inr ⟨by decide,by decide⟩ | exact ⟨by decide,by decide⟩ | exact ⟨by omega,by omega⟩) ?_))
 refine cO (fun z=>?_) (fun z=>?_)
 ·have z1:(2:Int)<=(e:Int) - (a:Int):=of_decide_eq_true z
  have ha:a<r.length:=by omega
  have he:e - 1<r.length:=by omega
  have g0:ny r (a:Int)=some r[a]:=aM (List.getElem?_eq_getElem ha)
  have g1:ny r ((e:Int) - 1)=some r[e - 1]:=by
   have:(e:Int) - 1=((e - 1:Nat):Int):=by omega
   rw[this];exact aM (List.getElem?_eq_getElem he)
  have h8:r[e - 1]<128:=(cN _ (List.getElem_mem he)).lt
  have hw:=Ej (l:=r) (s:=a) (e:=e) (by omega) h2
  refine ⟨_,rfl,_,rfl,r,_,_,rfl,rfl,SR,g0,?_⟩
  (repeat (first | refine ⟨_,rfl,?_⟩ | refine ⟨_,_,rfl,rfl,?_⟩ | refine ⟨rfl,?_⟩ | refine And.intro (by first | decide | omega | assumption | exact Nat.le_of_ble_eq_true rfl | exact .inl ⟨by decide,by decide⟩ | exact .inr ⟨by decide,by decide⟩ | exact ⟨by decide,by decide⟩ | exact ⟨by omega,by omega⟩) ?_))
  refine ⟨r,_,_,rfl,rfl,SR,g1,?_⟩
  (repeat (first | refine ⟨_,rfl,?_⟩ | refine ⟨_,_,rfl,rfl,?_⟩ | refine ⟨rfl,?_⟩ | refine And.intro (by first | decide | omega | assumption | exact Nat.le_of_ble_eq_true rfl | exact .inl ⟨by decide,by decide⟩ | exact .inr ⟨by decide,by decide⟩ | exact ⟨by decide,by decide⟩ | exact ⟨by omega,by omega⟩) ?_))
  refine cO (fun y=>?_) (fun y=>?_)
  ·have ey:r[a]=aU r[e - 1]:=by simpa using of_decide_eq_true y
   (repeat (first | refine ⟨_,rfl,?_⟩ | refine ⟨_,_,rfl,rfl,?_⟩ | refine ⟨rfl,?_⟩ | refine And.intro (by first | decide | omega | assumption | exact Nat.le_of_ble_eq_true rfl | exact .inl ⟨by decide,by decide⟩ | exact .inr ⟨by decide,by decide⟩ | exact ⟨by decide,by decide⟩ | exact ⟨by omega,by omega⟩) ?_))
   refine ⟨(e - 1) - (a+1),by omega,a+1,e - 1,?_,rfl,by omega,by omega,?_,rfl⟩
   ·have e1:(a:Int)+1=((a+1:Nat):Int):=by omega
    have e2:(e:Int) - 1=((e - 1:Nat):Int):=by omega
    rw[<-e1, <-e2]
    rfl
   ·rw[<-hc,hw,g_ ey]
  ·have ey:r[a]≠aU r[e - 1]:=fun w=>y (decide_eq_true (by rw[w]))
   (repeat (first | refine ⟨_,rfl,?_⟩ | refine ⟨_,_,rfl,rfl,?_⟩ | refine ⟨rfl,?_⟩ | refine And.intro (by first | decide | omega | assumption | exact Nat.le_of_ble_eq_true rfl | exact .inl ⟨by decide,by decide⟩ | exact .inr ⟨by decide,by decide⟩ | exact ⟨by decide,by decide⟩ | exact ⟨by omega,by omega⟩) ?_))
   exact fin (by rw[hw,dw ey])
 ·have z1: ¬(2:Int)<=(e:Int) - (a:Int):=fun w=>z (decide_eq_true w)
  (repeat (first | refine ⟨_,rfl,?_⟩ | refine ⟨_,_,rfl,rfl,?_⟩ | refine ⟨rfl,?_⟩ | refine And.intro (by first | decide | omega | assumption | exact Nat.le_of_ble_eq_true rfl | exact .inl ⟨by decide,by decide⟩ | exact .inr ⟨by decide,by decide⟩ | exact ⟨by decide,by decide⟩ | exact ⟨by omega,by omega⟩) ?_))
  exact fin (dz (by rw[A9 h2];omega))
theorem u6:bQ P w K mg base fk 4 Ci J3 ["word"] (uM K):=by
 have cB:=fh (P:=P) (w:=w) (base:=base) T
 refine T.rH.fn.ok ic (fun vs H Q E h=>yL h) (fun cS A outer s H vs Q E hr h=>?_)
 refine ⟨_,(af (au (i:=1) ic.nd rfl (Or.inl rfl) (ao cB (hr.mono (by decide)) rfl T.pN.mg T.pN.fn.kp T.pN.bd .nil aC (aa (pv 0) ab)))
   (af (au (i:=2) ic.nd rfl (Or.inl rfl) (pv 1))
   (af (bw PassesOwn.never rfl (nc rfl T.z_range (aa ag (aa (ar aX rfl T.z_len PySem.boot_len (aa (pv 1) ab)) ab))) (aw (i:=3) ic.nd rfl (Or.inl rfl)) (af (au (i:=4) ic.nd rfl (Or.inl rfl) (aA eh (bT jc (pv 1) (ck (pv 3)) cC) (bT jc (pv 1) cC (ck (pv 3)))))
   (ai (bH (aE DO (pv 4) (pv 2) (aP _)) (ai (au (i:=2) ic.nd rfl (Or.inl rfl) (pv 4))) a_))))
   (ai (aH (pv 2)))))),?_⟩
 obtain ⟨l,rfl,hl,hz,q⟩:=h
 have hs:(100000:Nat)<sizeLine:=by decide
 refine ⟨_,rfl,l,rfl,hl,hz,fun H1 s1=>?_⟩
 have Vt:(core (red l)).length<=1000:=Nat.le_trans (gT _) (Nat.le_trans (fU l) hz)
 unfold az fD at q
 generalize core (red l)=c at Vt q ⊢
 have YS:c.length<=sizeLine:=by omega
 (repeat (first | refine ⟨_,rfl,?_⟩ | refine ⟨_,_,rfl,rfl,?_⟩ | refine ⟨rfl,?_⟩ | refine And.intro (by first | decide | omega | assumption | exact Nat.le_of_ble_eq_true rfl | exact .inl ⟨by decide,by decide⟩ | exact .inr ⟨by decide,by decide⟩ | exact ⟨by decide,by decide⟩ | exact ⟨by omega,by omega⟩) ?_))
 refine ⟨_,_,rfl,⟨by decide,by decide,by omega,by omega⟩,?_⟩
 refine fu (fun i σ H'=>H'=H1/\ ∃sv bv,σ=[some (.str (S l)),some (.str (S c)),some (.str (S (bP c (ik c i)))),sv,bv]) ⟨rfl,none,none,rfl⟩ ?_ ?_
 ·rintro i σ H2 hi ⟨rfl,sv,bv,rfl⟩
  have e1:(1:Int)+(i:Int)=((i+1:Nat):Int):=by omega
  rw[e1]
  have hlen:(cut c (some ((i+1:Nat):Int)) none).length+(cut c none (some ((i+1:Nat):Int))).length<=sizeLine:=by rw[jU,cA,List.length_drop,List.length_take];omega
  have Ms:cut c (some ((i+1:Nat):Int)) none++cut c none (some ((i+1:Nat):Int))=dJ c (i+1):=by rw[jU,cA];rfl
  (repeat (first | refine ⟨_,rfl,?_⟩ | refine ⟨_,_,rfl,rfl,?_⟩ | refine ⟨rfl,?_⟩ | refine And.intro (by first | decide | omega | assumption | exact Nat.le_of_ble_eq_true rfl | exact .inl ⟨by decide,by decide⟩ | exact .inr ⟨by decide,by decide⟩ | exact ⟨by decide,by decide⟩ | exact ⟨by omega,by omega⟩) ?_))
  rw[Ms]
  refine cO (fun z=>?_) (fun z=>?_)
  ·have z':dJ c (i+1)<bP c (ik c i):=of_decide_eq_true z
   have hle:bP c (ik c (i+1))=dJ c (i+1):=by rw[nR,fW];unfold cx;rw[if_pos z']
   refine ⟨_,rfl,?_⟩
   rw[hle]
   exact ⟨rfl,_,_,rfl⟩
  ·have z': ¬dJ c (i+1)<bP c (ik c i):=fun y=>z (decide_eq_true y)
   have hle:bP c (ik c (i+1))=bP c (ik c i):=by rw[nR,fW];unfold cx;rw[if_neg z']
   rw[hle]
   exact ⟨rfl,_,_,rfl⟩
 ·rintro σ H2 ⟨rfl,sv,bv,rfl⟩
  have e:((c.length:Int) - 1).toNat=c.length - 1:=by omega
  rw[e]
  exact ⟨_,rfl,q _ s1⟩
theorem tO:bQ P w K mg base fk 5 Cj J4 ["one","other"] (lK K):=by
 have mD:=u6 (P:=P) (w:=w) (base:=base) T
 refine T.Ew.fn.ok tM (fun vs H Q E h=>qK h) (fun cS A outer s H vs Q E hr h=>?_)
 refine ⟨_,(ai (aH (i4 eQ (ao mD (hr.mono (by decide)) rfl T.rH.mg T.rH.fn.kp T.rH.bd .nil aC (aa (pv 0) ab)) (ao mD (hr.mono (by decide)) rfl T.rH.mg T.rH.fn.kp T.rH.bd .nil aC (aa (pv 1) ab)) (aP _)))),?_⟩
 obtain ⟨a,b,rfl,ha,za,hb,zb,q⟩:=h
 refine ⟨_,rfl,a,rfl,ha,za,fun H1 s1=>?_⟩
 refine ⟨_,rfl,b,rfl,hb,zb,fun H2 s2=>?_⟩
 exact ⟨_,_,rfl,rfl,q _ (s1.trans s2)⟩
theorem jD:bQ P w K mg base fk 2 Ck J5 ["word"] (jx K):=by
 have bM:=df (P:=P) (w:=w) (base:=base) T
 refine T.zW.fn.ok cH (fun vs H Q E h=>mW h) (fun cS A outer s H vs Q E hr h=>?_)
 refine ⟨_,(af (au (i:=1) cH.nd rfl (Or.inl rfl) (bp ab))
   (af (au (i:=2) cH.nd rfl (Or.inl rfl) ag)
   (af (eF PassesOwn.never (aE kR (pv 2) (aA cK (ar aX rfl T.z_len PySem.boot_len (aa (pv 0) ab)) ag) (aP _)) (ai (bH (aE eQ (aB jO (pv 0) (aA br (pv 2) ag) (fun _ _=>rfl)) (ao bM (hr.mono (by decide)) rfl T.F0.mg T.F0.fn.kp T.F0.bd .nil aC (aa (aB jO (pv 0) (pv 2) (fun _ _=>rfl)) ab)) (aP _)) (af (ba (bf K rfl PySem.F.plainAttrs_list PySem.F.slot_list_append PySem.F.type_list_append bt (pv 1) (aa (bI (aa (pv 2) (aa (aB jO (pv 0) (pv 2) (fun _ _=>rfl)) ab))) ab)))
   (af (au (i:=0) cH.nd rfl (Or.inl rfl) (aA eh (bT jc (pv 0) cC (ck (pv 2))) (bT jc (pv 0) (ck (aA br (pv 2) ag)) cC)))
   (ai (au (i:=2) cH.nd rfl (Or.inl rfl) (ar (ng rfl) rfl T.z_max boot_max (aa (aA cK (pv 2) ag) (aa ag ab))))))) (ai (kO (i:=2) cH.nd rfl (Or.inl rfl) ag rL)))))
   (ai (aH (pv 1)))))),?_⟩
 obtain ⟨w,rfl,hw,hz,q⟩:=h
 have hs:(100000:Nat)<sizeLine:=by decide
 (repeat (first | refine ⟨_,rfl,?_⟩ | refine ⟨_,_,rfl,rfl,?_⟩ | refine ⟨_,_,_,rfl,rfl,by first | assumption | omega,by assumption,?_⟩ | refine ⟨rfl,?_⟩ | refine And.intro (by first | decide | omega | assumption | exact Nat.le_of_ble_eq_true rfl | exact .inl ⟨by decide,by decide⟩ | exact .inr ⟨by decide,by decide⟩ | exact ⟨by decide,by decide⟩ | exact ⟨by omega,by omega⟩) ?_))
 intro t nt
 have s1:=ah.upd (o:=HO.lst []) nt
 have zZ:upd H t (HO.lst []) t=some (HO.lst []):=ae
 generalize upd H t (HO.lst [])=H1 at s1 zZ ⊢
 refine ⟨fun m σ H'=> ∃(u:List Nat) (p:Nat) (ps:List Pq),σ=[some (.str (S u)),some (.ref t),some (.int p)]/\m=2*u.length+1 - p/\p<=u.length/\(∀k,k<p-> ¬Spot u k)/\gz w (ps.map Pq.pr) u/\H' t=some (.lst (oj ps))/\(∀p∈ps,Er H' p)/\ah H H',
  ⟨_,w,0,[],rfl,rfl,Nat.zero_le _,fun k hk=>by omega, .nil,zZ,fun _ h=>absurd h List.not_mem_nil,s1⟩,?_⟩
 rintro m σ H2 ⟨u,p,ps,rfl,rfl,hp,Mt,ho,CL,kl,s2⟩
 have FI:=ho.len
 have Mu:=ho.mem
 have HN: ∀c∈u,Lt c:=fun c hc=>hw c (Mu c hc)
 have FJ:u.length<=sizeLine:=by omega
 have ig:ps.length<=6:=by rw[List.length_map]at FI;omega
 refine ⟨_,rfl,_,rfl,u,rfl,FJ,_,_,rfl,rfl,_,_,rfl,rfl,_,rfl,cO (fun z=>?_) (fun z=>?_)⟩
 ·have z1:(p:Int)<(u.length:Int) - 1:=of_decide_eq_true z
  have g9:p+1<u.length:=by omega
  have e0:u[p]? =some (u[p]'(by omega)):=List.getElem?_eq_getElem (by omega)
  have e1:u[p+1]? =some u[p+1]:=List.getElem?_eq_getElem g9
  generalize (u[p]'(by omega))=a at e0
  generalize u[p+1]=b at e1
  have ha:=HN a (List.mem_of_getElem? e0)
  have hb:=HN b (List.mem_of_getElem? e1)
  have ep:(p:Int)+1=((p+1:Nat):Int):=by omega
  refine ⟨_,rfl,_,rfl,_,_,rfl,rfl,u,_,_,rfl,rfl,FJ,by rw[ep];exact aM e1,?_⟩
  refine ⟨_,rfl,_,rfl,u,_,_,rfl,rfl,FJ,aM e0,a,rfl,ha.lt,[b],[aU a],rfl,rfl,_,rfl,cO (fun y=>?_) (fun y=>?_)⟩
  ·have ey:b=aU a:=by simpa using of_decide_eq_true y
   subst ey
   refine ⟨_,rfl, .inl ⟨rfl,_,aT.of CL⟩,_,rfl,_,rfl,_,rfl,u,_,_,rfl,rfl,FJ,aM e0,by show 2<=sizeLine;decide,fun t1 HP=>?_⟩
   have s3:=ah.upd (o:=HO.tup [V.int p,V.str (S [a])]) HP
   have SU:=s3 _ _ CL
   refine ⟨t,_,_,rfl,rfl,SU,by rw[kH];omega,?_⟩
   rw[show oj ps++[V.ref t1]=oj (ps++[⟨t1,p,a⟩]) from zc ps ⟨t1,p,a⟩]
   have HQ: ∀x∈ps++[(⟨t1,p,a⟩:Pq)],Er (upd (upd H2 t1 (HO.tup [V.int p,V.str (S [a])])) t (HO.lst (oj (ps++[⟨t1,p,a⟩])))) x:=fun x hx=>by
    have tU:=aF.fR (o:=HO.lst (oj (ps++[⟨t1,p,a⟩]))) SU
    rcases List.mem_append.mp hx with g | g
    ·exact tU _ _ (s3 _ _ (kl x g))
    ·rw[List.mem_singleton.mp g];exact tU _ _ ae
   have s4:ah H (upd (upd H2 t1 (HO.tup [V.int p,V.str (S [a])])) t (HO.lst (oj (ps++[⟨t1,p,a⟩])))):=fun x o ex=>by rw[aq (ak ex nt)];exact s3 _ _ (s2 _ _ ex)
   have SV:upd (upd H2 t1 (HO.tup [V.int p,V.str (S [a])])) t (HO.lst (oj (ps++[⟨t1,p,a⟩]))) t=_:=ae
   generalize upd (upd H2 t1 (HO.tup [V.int p,V.str (S [a])])) t (HO.lst (oj (ps++[⟨t1,p,a⟩])))=H4 at HQ s4 SV ⊢
   have SW:(p:Int)+2=((p+2:Nat):Int):=by omega
   have hl:=pH e1
   refine ⟨_,rfl,_,rfl,_,rfl,u,rfl,FJ,_,rfl,_,rfl,_,_,rfl,rfl,_,rfl,u,rfl,FJ,_,_,rfl,rfl,?_,?_⟩
   ·rw[ju,SW,cA, <-List.length_append];omega
   rw[ju,SW,cA]
   refine ⟨_,rfl,_,_,rfl,rfl,_,_,rfl,?_⟩
   have em:(if (0:Int)>(p:Int) - 1 then (0:Int) else (p:Int) - 1)=((p - 1:Nat):Int):=by split<;>omega
   rw[em]
   refine ⟨_,?_,u.take p++u.drop (p+2),p - 1,ps++[⟨t1,p,a⟩],rfl,rfl,by omega,fun k hk sp=>?_,by rw[List.map_append];exact ho.snoc e0 e1,SV,HQ,s4⟩
   ·omega
   ·obtain ⟨c,d,g1,g2,g3⟩:=sp
    rw[List.getElem?_append_left (by rw[List.length_take];omega),List.getElem?_take,if_pos (by omega)]at g1 g2
    exact Mt k (by omega) ⟨c,d,g1,g2,g3⟩
  ·have ey:b≠aU a:=fun g=>y (decide_eq_true (by rw[g]))
   refine ⟨_,rfl,_,_,rfl,rfl,_,?_,u,p+1,ps,by rw[<-ep];rfl,rfl,by omega,fun k hk sp=>?_,ho,CL,kl,s2⟩
   ·omega
   ·rcases Nat.lt_or_ge k p with g | g
    ·exact Mt k g sp
    ·have:k=p:=by omega
     subst this
     obtain ⟨c,d,g1,g2,g3⟩:=sp
     rw[e0]at g1;rw[e1]at g2
     cases g1;cases g2
     exact ey (by rw[g3,bo hb])
 ·have z1: ¬(p:Int)<(u.length:Int) - 1:=fun g=>z (decide_eq_true g)
  have hu:red u=u:=Ba fun k sp=>by
   rcases Nat.lt_or_ge k p with g | g
   ·exact Mt k g sp
   ·obtain ⟨c,d,g1,g2,g3⟩:=sp
    have:=(List.getElem?_eq_some_iff.mp g2).1
    omega
  refine ⟨_,rfl,q t ps H2 nt CL kl ?_ s2⟩
  rw[<-ho.red hw,hu]
  exact ho
theorem w6:bQ P w K mg base fk 4 Cn J9 ["cord","word"] (om K):=by
 have dS:=gi (P:=P) (w:=w) (base:=base) T
 have cB:=fh (P:=P) (w:=w) (base:=base) T
 have bM:=df (P:=P) (w:=w) (base:=base) T
 have gY:=jD (P:=P) (w:=w) (base:=base) T
 refine T.Ey.fn.ok fN (fun vs H Q E h=>tJ h) (fun cS A outer s H vs Q E hr h=>?_)
 refine ⟨_,(af (au (i:=2) fN.nd rfl (Or.inl rfl) (bp ab))
   (af (au (i:=3) fN.nd rfl (Or.inl rfl) (ao dS (hr.mono (by decide)) rfl T.wY.mg T.wY.fn.kp T.wY.bd .nil aC (aa (pv 1) ab)))
   (af (bw PassesOwn.never rfl (DN rfl T.z_reversed (aa (bT jc (pv 3) cC (ck (aA oJ (aA cK (ar aX rfl T.z_len PySem.boot_len (aa (pv 3) ab)) (ar aX rfl T.z_len PySem.boot_len (aa (ao cB (hr.mono (by decide)) rfl T.pN.mg T.pN.fn.kp T.pN.bd .nil aC (aa (pv 1) ab)) ab))) ag))) ab)) (aw (i:=4) fN.nd rfl (Or.inl rfl)) (af (ba (bf K rfl PySem.F.plainAttrs_list PySem.F.slot_list_append PySem.F.type_list_append bt (pv 2) (aa (bI (aa (dZ [105,110] (by decide+kernel)) (aa (pv 0) (aa ag (aa (ao bM (hr.mono (by decide)) rfl T.F0.mg T.F0.fn.kp T.F0.bd .nil aC (aa (pv 4) ab)) (aa ag ab)))))) ab)))
   (ai (ba (bf K rfl PySem.F.plainAttrs_list PySem.F.slot_list_append PySem.F.type_list_append bt (pv 2) (aa (bI (aa (dZ [116,117,114,110] (by decide+kernel)) (aa (pv 0) ab))) ab))))))
   (af (bw PassesOwn.never rfl (A2 K rfl rfl T.z_reversed (aa (ao gY (hr.mono (by decide)) rfl T.zW.mg T.zW.fn.kp T.zW.bd .nil aC (aa (pv 1) ab)) ab)) (aw (i:=5) fN.nd rfl (Or.inl rfl)) (ai (ba (bf K rfl PySem.F.plainAttrs_list PySem.F.slot_list_append PySem.F.type_list_append bt (pv 2) (aa (bI (aa (dZ [105,110] (by decide+kernel)) (aa (pv 0) (aa (aB (aG K rfl) (pv 5) ag (fun _ _=>rfl)) (aa (aB (aG K rfl) (pv 5) ag (fun _ _=>rfl)) (aa ag ab)))))) ab)))))
   (ai (aH (pv 2))))))),?_⟩
 obtain ⟨y,c,w,rfl,hy,tP,hz,q⟩:=h
 have hs:(100000:Nat)<sizeLine:=by decide
 have hw: ∀c∈w,Lt c:=fun c hc=>hy.lt c (tP c hc)
 have nL:=fU w
 have mh:=gT (red w)
 (repeat (first | refine ⟨_,rfl,?_⟩ | refine ⟨_,_,rfl,rfl,?_⟩ | refine ⟨_,_,_,rfl,rfl,by first | assumption | omega,by assumption,?_⟩ | refine ⟨rfl,?_⟩ | refine And.intro (by first | decide | omega | assumption | exact Nat.le_of_ble_eq_true rfl | exact .inl ⟨by decide,by decide⟩ | exact .inr ⟨by decide,by decide⟩ | exact ⟨by decide,by decide⟩ | exact ⟨by omega,by omega⟩) ?_))
 intro D nD
 have s1:=ah.upd (o:=HO.lst []) nD
 have ES:fG H (upd H D (HO.lst [])) D []:=⟨ae,fun _ h=>absurd h List.not_mem_nil,s1⟩
 generalize upd H D (HO.lst [])=H1 at ES ⊢
 refine ⟨_,rfl,w,rfl,hw,by omega,fun H2 s2=>?_⟩
 have CM:=ES.same s2
 obtain ⟨p,ig,jC⟩:=sS (show AllLt (red w) from o_ hw)
 have hlen:(red w).length=2*p.length+(core (red w)).length:=by
  have:=congrArg List.length jC
  rw[List.length_append,List.length_append]at this
  unfold qE at this
  simp at this
  omega
 have Vu:(red w).take p.length=p:=by conv=>lhs;rw[jC];rw[List.append_assoc,List.take_left]
 have hV: ∀x∈p,x∈y:=fun x hx=>tP x (Bj (by rw[jC,List.append_assoc];exact List.mem_append_left _ hx))
 refine ⟨_,rfl,_,rfl,red w,rfl,by omega,?_⟩
 refine ⟨_,rfl,w,rfl,hw,by omega,fun H3 s3=>⟨core (red w),rfl,by omega,_,_,rfl,rfl,?_⟩⟩
 have oB:=CM.same s3
 clear ES CM s1 s2 s3
 refine ⟨_,_,rfl,rfl,⟨by decide,by decide⟩,_,rfl,red w,rfl,by omega,?_⟩
 have HR:(((red w).length:Int) - ((core (red w)).length:Int)) / 2=((p.length:Nat):Int):=by omega
 rw[HR,ju,Vu]
 refine ⟨p,rfl,by omega,?_⟩
 have Mv:(bY p).reverse=bY p.reverse:=by unfold bY;rw[List.map_reverse]
 rw[Mv]
 have Mc: ∀x∈p.reverse,Lt x:=fun x hx=>ig x (List.mem_reverse.mp hx)
 refine ui (xs:=bY p.reverse) (fun i σ H'=> ∃(ds:List Dd) (lv:Option V),σ=[some (.int c),some (.str (S w)),some (.ref D),some (.str (S (red w))),lv,none]/\fG H H' D ds/\ds.map Dd.e=mj c (p.reverse.take i))
  ⟨[],none,rfl,oB,rfl⟩ ?_ ?_
 ·rintro i v σ H4 hv ⟨ds,lv,rfl,pU,m6⟩
  obtain ⟨x,hx,rfl⟩:=dH hv
  have Eo:=Mc x (List.mem_of_getElem? hx)
  have hi:i<p.reverse.length:=(List.getElem?_eq_some_iff.mp hx).1
  have z0:ds.length<=24:=by
   have:=congrArg List.length m6
   rw[List.length_map,mr,List.length_take]at this
   rw[List.length_reverse]at this hi
   omega
  refine ⟨_,rfl, .inl ⟨rfl,_,aT.of pU.ls⟩,_,rfl,_,rfl,x,rfl,Eo.lt,by show 5<=sizeLine;decide,fun d1 n1=>?_⟩
  have e1:=ah.upd (o:=HO.tup [V.str (S [105,110]),V.int c,V.int 0,V.str (S [aU x]),V.int 0]) n1
  refine ⟨D,_,_,rfl,rfl,e1 _ _ pU.ls,by rw[bZ];omega,?_⟩
  rw[show dQ ds++[V.ref d1]=dQ (ds++[⟨d1, .ins c 0 (aU x) 0⟩]) from eZ ds ⟨d1, .ins c 0 (aU x) 0⟩]
  have rK:=pU.push (e:= .ins c 0 (aU x) 0) nD e1 ae
  generalize upd (upd H4 d1 (HO.tup [V.str (S [105,110]),V.int c,V.int 0,V.str (S [aU x]),V.int 0])) D (HO.lst (dQ (ds++[⟨d1, .ins c 0 (aU x) 0⟩])))=H5 at rK ⊢
  refine ⟨_,rfl, .inl ⟨rfl,_,aT.of rK.ls⟩,_,rfl,by show 2<=sizeLine;decide,fun d2 n2=>?_⟩
  have e2:=ah.upd (o:=HO.tup [V.str (S [116,117,114,110]),V.int c]) n2
  refine ⟨D,_,_,rfl,rfl,e2 _ _ rK.ls,by rw[bZ,List.length_append];show ds.length+1<_;omega,?_⟩
  rw[show dQ (ds++[⟨d1, .ins c 0 (aU x) 0⟩])++[V.ref d2]=dQ ((ds++[⟨d1, .ins c 0 (aU x) 0⟩])++[⟨d2, .turn c⟩]) from eZ _ ⟨d2, .turn c⟩]
  refine ⟨_,_,rfl,rK.push (e:= .turn c) nD e2 ae,?_⟩
  rw[List.map_append,List.map_append,m6,List.take_succ,hx,List.append_assoc]
  show mj c _++_=mj c (p.reverse.take i++[x])
  rw[jY]
  rfl
 ·rintro σ H4 ⟨ds,lv,rfl,pU,m6⟩
  rw[aQ,List.take_length]at m6
  have Mw:WP y c (core (red w)) (ds.map Dd.e) (red w):=by
   rw[m6]
   have:=WP.Cd (y:=y) (c:=c) p (core (red w)) (fun x hx=>⟨ig x hx,hy.cl x (hV x hx)⟩) (by omega)
   rw[<-jC]at this
   exact this
  have z0:ds.length<=24:=by
   have:=congrArg List.length m6
   rw[List.length_map,mr,List.length_reverse]at this
   omega
  refine ⟨_,rfl,w,rfl,hw,hz,fun t ps H5 nt ht kl ho s5=>?_⟩
  have Vv:ps.length<=6:=by have:=ho.len;rw[List.length_map]at this;omega
  have rK:=pU.same s5
  refine ⟨t,_,rfl,aT.of ht,?_⟩
  refine yA (K:=K) (a:=t) (xs:=oj ps) (fun i σ H'=> ∃(es:List Dd) (pv:Option V),σ=[some (.int c),some (.str (S w)),some (.ref D),some (.str (S (red w))),lv,pv]/\fG H H' D es/\es.map Dd.e=ds.map Dd.e++((ps.reverse.take i).map fun p=> .ins c p.k p.x 0)/\aI D H5 H')
   ⟨ds,none,rfl,rK,by simp,aI.refl _ _⟩ (fun i σ H' _ ⟨_,_,_,_,_,h⟩=>aT.of (h _ _ ht (ak pU.ls nt).symm)) ?_ ?_
  ·rintro i v σ H6 hv ⟨es,pv,rfl,Bm,xx,s6⟩
   have Vw:(oj ps.reverse)[i]? =some v:=by unfold oj at hv ⊢; rw[<-List.map_reverse]at hv;exact hv
   obtain ⟨r,ET,rfl⟩:=zd Vw
   have Vx:r∈ps:=List.mem_reverse.mp (List.mem_of_getElem? ET)
   have S0:=kl r Vx
   have Kt:H6 r.t=_:=s6 _ _ S0 (fun z=>by have:=rK.ls;rw[<-z,show H5 r.t=_ from S0]at this;cases this)
   have wI:es.length<=30:=by
    have:=congrArg List.length xx
    rw[List.length_map,List.length_append,List.length_map,List.length_map,List.length_take,List.length_reverse]at this
    omega
   refine ⟨_,rfl, .inl ⟨rfl,_,aT.of Bm.ls⟩,_,rfl,_,rfl,r.t,_,0,_,rfl,rfl,aW.of Kt,rfl,_,rfl,r.t,_,1,_,rfl,rfl,aW.of Kt,rfl,by show 5<=sizeLine;decide,fun d1 n1=>?_⟩
   have e1:=ah.upd (o:=HO.tup [V.str (S [105,110]),V.int c,V.int r.k,V.str (S [r.x]),V.int 0]) n1
   refine ⟨D,_,_,rfl,rfl,e1 _ _ Bm.ls,by rw[bZ];omega,?_⟩
   rw[show dQ es++[V.ref d1]=dQ (es++[⟨d1, .ins c r.k r.x 0⟩]) from eZ es ⟨d1, .ins c r.k r.x 0⟩]
   refine ⟨_,_,rfl,Bm.push (e:= .ins c r.k r.x 0) nD e1 ae,?_,fun a u ea na=>by rw[aq na];exact e1 _ _ (s6 a u ea na)⟩
   rw[List.map_append,xx,List.take_succ,ET,List.append_assoc]
   show _=_++((ps.reverse.take i++[r]).map _)
   rw[List.map_append]
   rfl
  ·rintro σ H6 ⟨es,pv,rfl,Bm,xx,s6⟩
   rw[kH, <-List.length_reverse,List.take_length]at xx
   have wI:es.length<=100:=by
    have:=congrArg List.length xx
    rw[List.length_map,List.length_append,List.length_map,List.length_map,List.length_reverse]at this
    omega
   refine ⟨_,rfl,q D es H6 nD Bm.ls Bm.de ?_ wI Bm.sm⟩
   show WP y c (core (red w)) (es.map Dd.e) w
   rw[xx]
   refine Mw.app ?_
   have:=ho.up (y:=y) (c:=c) tP hz
   rw[<-List.map_reverse,List.map_map]at this
   exact this
theorem rz:bQ P w K mg base fk 4 Cm J6 ["cord","word"] (kj K):=by
 have gY:=jD (P:=P) (w:=w) (base:=base) T
 have dS:=gi (P:=P) (w:=w) (base:=base) T
 have cB:=fh (P:=P) (w:=w) (base:=base) T
 refine T.Ex.fn.ok fg (fun vs H Q E h=>pK h) (fun cS A outer s H vs Q E hr h=>?_)
 refine ⟨_,(af (lz (i:=2) ["pair","cord"] [none,some 0] fg.nd rfl (Or.inl rfl) (fv K rfl (ao gY (hr.mono (by decide)) rfl T.zW.mg T.zW.fn.kp T.zW.bd .nil aC (aa (pv 1) ab))) ⟨⟨rfl,rfl,by first | exact .inl rfl | exact .inr rfl⟩,trivial⟩ (fun _ _ _ _=>(aw (i:=0) (by decide+kernel:List.Nodup (["pair","cord"]:List Str)) rfl (Or.inl rfl))) (fun _ _ _ _=>jM) (fun _ _ _ _=>(bI (aa (dZ [111,117,116] (by decide+kernel)) (aa (pv 1) (aa (aB (aG K rfl) (pv 0) ag (fun _ _=>rfl)) ab))))))
   (af (au (i:=3) fg.nd rfl (Or.inl rfl) (ar aX rfl T.z_len PySem.boot_len (aa (ao dS (hr.mono (by decide)) rfl T.wY.mg T.wY.fn.kp T.wY.bd .nil aC (aa (pv 1) ab)) ab)))
   (af (eF PassesOwn.never (aE i0 (pv 3) (ar aX rfl T.z_len PySem.boot_len (aa (ao cB (hr.mono (by decide)) rfl T.pN.mg T.pN.fn.kp T.pN.bd .nil aC (aa (pv 1) ab)) ab)) (aP _)) (af (ba (bf K rfl PySem.F.plainAttrs_list PySem.F.slot_list_append PySem.F.type_list_append bt (pv 2) (aa (bI (aa (dZ [116,117,114,110] (by decide+kernel)) (aa (pv 0) ab))) ab)))
   (af (ba (bf K rfl PySem.F.plainAttrs_list PySem.F.slot_list_append PySem.F.type_list_append bt (pv 2) (aa (bI (aa (dZ [111,117,116] (by decide+kernel)) (aa (pv 0) (aa (aA cK (pv 3) ag) ab)))) ab)))
   (ai (kO (i:=3) fg.nd rfl (Or.inl rfl) ag xG)))))
   (ai (aH (pv 2)))))),?_⟩
 obtain ⟨y,c,w,rfl,hw,hz,q⟩:=h
 have hs:(100000:Nat)<sizeLine:=by decide
 refine ⟨_,rfl,w,rfl,hw,hz,fun t ps H1 nt ht kl ho s1=>?_⟩
 have ig:ps.length<=6:=by have:=ho.len;rw[List.length_map]at this;omega
 refine ⟨t,rfl,⟨_,aT.of ht⟩,?_⟩
 refine vH (K:=K) (a:=t) (xs:=oj ps) (fun i acc H'=>ah H1 H'/\ ∃ds:List Dd,acc=dQ ds/\(∀x∈ds,d_ H' x.a x.e)/\ds.map Dd.e=(ps.take i).map fun p=> .out c p.k) (by rw[kH];omega) (fun i acc H' h=>aT.of (h.1 _ _ ht)) ⟨ah.refl _,[],rfl,fun _ h=>absurd h List.not_mem_nil,rfl⟩ ?_ ?_
 ·rintro i x acc H2 Nx hi hx gA ⟨s2,ds,rfl,u7,m6⟩ nx
  obtain ⟨p,hp,rfl⟩:=zd hx
  have Vy:H2 p.t=_:=s2 _ _ (kl p (List.mem_of_getElem? hp))
  refine ⟨⟨rfl,trivial⟩,jk ?_⟩
  refine ⟨_,rfl,_,rfl,p.t,_,0,_,rfl,rfl,aW.of Vy,rfl,by show 3<=sizeLine;decide,fun d nd=>?_⟩
  have s3:=ah.upd (o:=HO.tup [V.str (S [111,117,116]),V.int c,V.int p.k]) nd
  refine nx _ _ (by simpa using gA) ⟨s2.trans s3,ds++[⟨d, .out c p.k⟩],eZ ds ⟨d, .out c p.k⟩,fun x hx=>?_,?_⟩
  ·rcases List.mem_append.mp hx with g | g
   ·exact (u7 x g).ts (aF.of s3)
   ·rw[List.mem_singleton.mp g];exact ae
  ·rw[List.map_append,m6,List.take_succ,hp]
   show _=((ps.take i)++[p]).map _
   rw[List.map_append];rfl
 ·rintro acc H2 D gA ⟨s2,ds,rfl,u7,m6⟩ hD
  rw[kH,List.take_length]at m6
  have s3:=ah.upd (o:=HO.lst (dQ ds)) hD
  have nD:H D=none:=ah.free (s1.trans s2) hD
  have oB:fG H (upd H2 D (HO.lst (dQ ds))) D ds:=⟨ae,fun x hx=>(u7 x hx).ts (aF.of s3),(s1.trans s2).trans s3⟩
  have EU:WP y c w (ds.map Dd.e) (red w):=by
   rw[m6]
   have:=ho.down (y:=y) (c:=c)
   rwa [List.map_map]at this
  have z0:ds.length<=6:=by
   have:=congrArg List.length m6
   rw[List.length_map,List.length_map]at this
   omega
  generalize upd H2 D (HO.lst (dQ ds))=H3 at oB ⊢
  clear s2 u7 hD gA s3
  have nL:=fU w
  refine ⟨_,rfl,w,rfl,hw,by omega,fun H4 s4=>⟨red w,rfl,by omega,?_⟩⟩
  refine ⟨fun m σ H'=> ∃(u:List Nat) (es:List Dd),σ=[some (.int c),some (.str (S w)),some (.ref D),some (.int (u.length:Nat))]/\m=u.length/\core u=core (red w)/\u.length<=12/\fG H H' D es/\WP y c w (es.map Dd.e) u/\es.length+u.length<=20,
   ⟨_,red w,ds,rfl,rfl,rfl,by omega,oB.same s4,EU,by omega⟩,?_⟩
  rintro m σ H5 ⟨u,es,rfl,rfl,hc,hu,zm,FK,CN⟩
  have mh:=gT (red w)
  refine ⟨_,rfl,_,rfl,w,rfl,hw,by omega,fun H6 s6=>⟨core (red w),rfl,by omega,_,_,rfl,rfl,_,rfl,cO (fun z=>?_) (fun z=>?_)⟩⟩
  ·have z1:(core u).length<u.length:=by rw[hc];have:(u.length:Int)>((core (red w)).length:Int):=of_decide_eq_true z;omega
   obtain ⟨a,mm,zz,rfl,ez,Vz⟩:=wW z1
   have CK:(a::(mm++[zz])).length=mm.length+2:=by simp
   have EV:=zm.same s6
   refine ⟨_,rfl, .inl ⟨rfl,_,aT.of EV.ls⟩,_,rfl,by show 2<=sizeLine;decide,fun d1 n1=>?_⟩
   have e1:=ah.upd (o:=HO.tup [V.str (S [116,117,114,110]),V.int c]) n1
   refine ⟨D,_,_,rfl,rfl,e1 _ _ EV.ls,by rw[bZ];omega,?_⟩
   rw[show dQ es++[V.ref d1]=dQ (es++[⟨d1, .turn c⟩]) from eZ es ⟨d1, .turn c⟩]
   have Ku:=EV.push (e:= .turn c) nD e1 ae
   generalize upd (upd H6 d1 (HO.tup [V.str (S [116,117,114,110]),V.int c])) D (HO.lst (dQ (es++[⟨d1, .turn c⟩])))=H7 at Ku ⊢
   have em:(((a::(mm++[zz])).length:Nat):Int) - 2=((mm.length:Nat):Int):=by rw[CK];omega
   refine ⟨_,rfl, .inl ⟨rfl,_,aT.of Ku.ls⟩,_,rfl,_,rfl,_,_,rfl,rfl,by show 3<=sizeLine;decide,fun d2 n2=>?_⟩
   have e2:=ah.upd (o:=HO.tup [V.str (S [111,117,116]),V.int c,V.int ((((a::(mm++[zz])).length:Nat):Int) - 2)]) n2
   refine ⟨D,_,_,rfl,rfl,e2 _ _ Ku.ls,by rw[bZ,List.length_append];show es.length+1<_;omega,?_⟩
   rw[show dQ (es++[⟨d1, .turn c⟩])++[V.ref d2]=dQ ((es++[⟨d1, .turn c⟩])++[⟨d2, .out c mm.length⟩]) from eZ _ ⟨d2, .out c mm.length⟩]
   have VA:=Ku.push (e:= .out c mm.length) nD e2 (by show upd H7 d2 _ d2=_;rw[ae,em];rfl)
   refine ⟨_,rfl,_,_,rfl,rfl,mm.length,by rw[CK];omega,mm,_,by rw[<-em];rfl,rfl,Vz.trans hc,by rw[CK]at hu;omega,VA,?_,by rw[CK]at CN;rw[List.length_append,List.length_append];show es.length+1+1+_<=20;omega⟩
   rw[List.map_append,List.map_append,List.append_assoc]
   exact FK.app (WP.ends ez)
  ·have z1: ¬(core u).length<u.length:=fun g=>z (decide_eq_true (by rw[hc]at g;show (u.length:Int)>_;omega))
   have VB:core u=u:=by
    by_cases h2:2<=u.length
    ·obtain ⟨a,mm,zz,rfl⟩:=qJ h2
     by_cases ez:a=aU zz
     ·have:=gT mm
      rw[g_ ez]at z1
      simp at z1
      omega
     ·exact dw ez
    ·exact dz (by omega)
   refine ⟨_,rfl,q D es H6 nD (zm.same s6).ls (zm.same s6).de ?_ (by omega) (zm.same s6).sm⟩
   show WP y c w (es.map Dd.e) (core (red w))
   rw[<-hc,VB]
   exact FK
theorem oD:bQ P w K mg base fk 1 CF Km ["_law_yard_here"] (nW K):=by
 refine T.zX.fn.ok w4 (fun vs H Q E h=>sV h) (fun cS A outer s H vs Q E hr h=>?_)
 refine ⟨_,(ai (aH (ar (jh K rfl) rfl T.z_sorted boot_sorted (aa (di ["_law_letter"] [none] (oV (pv 0)) trivial (fun _ _ _ _=>(aw (i:=0) (by decide+kernel:List.Nodup (["_law_letter"]:List Str)) rfl (Or.inl rfl))) (fun _ _ _ _=>(jN (aE xX (pv 0) (dZ [97,98,99,100,101,102,103,104,105,106,107,108,109,110,111,112,113,114,115,116,117,118,119,120,121,122] (by decide+kernel)) (by with_unfolding_all rfl)))) (fun _ _ _ _=>(pv 0))) ab)))),?_⟩
 obtain ⟨y,rfl,hz,q⟩:=h
 have hs:(1000:Nat)<sizeLine:=by decide
 refine ⟨_,rfl,y,rfl,?_⟩
 refine lr (xs:=bY y) (fun i acc H'=>ah H H'/\acc=bY ((y.take i).filter fun c=>decide (c∈bb))) (by rw[aQ];omega) ⟨ah.refl H,rfl⟩ ?_ ?_
 ·rintro i x acc H1 Nx hi hx gA ⟨s1,rfl⟩ nx
  obtain ⟨c,hc,rfl⟩:=dH hx
  have e:=ke (p:=fun c=>decide (c∈bb)) hc
  refine ⟨trivial,?_⟩
  refine ⟨_,rfl,c,bb,rfl,rfl,_,rfl,?_⟩
  refine cO (fun z=>?_) (fun z=>?_)
  ·rw[if_pos z]at e
   exact ⟨_,rfl,nx _ _ (by simpa using gA) ⟨s1,by rw[e, <-eT]⟩⟩
  ·rw[if_neg z,List.append_nil]at e
   exact nx _ _ (Nat.le_succ_of_le gA) ⟨s1,by rw[e]⟩
 ·rintro acc H1 D gA ⟨s1,rfl⟩ hD
  rw[lF,fB]
  have Vm:(y.filter fun c=>decide (c∈bb)).length<=y.length:=List.length_filter_le _ _
  refine ⟨D,(y.filter fun c=>decide (c∈bb)).map fun c=>[c],rfl,aT.of ae,by rw[List.length_map];omega,fun p ls hp hV FH=>?_⟩
  obtain ⟨l',rfl,pl⟩:=ur hV
  refine q p l' _ (ah.free (ah.trans s1 (ah.upd hD)) hp) (by rw[ae, <-fB]) pl (uu FH) ((s1.trans (ah.upd hD)).trans (ah.upd hp))
theorem j7:bQ P w K mg base fk 1 CA Ki ["_law_letter"] (nM K):=by
 refine T.rJ.fn.ok j5 (fun vs H Q E h=>sH h) (fun cS A outer s H vs Q E hr h=>?_)
 refine ⟨_,(af (au (i:=1) j5.nd rfl (Or.inl rfl) (dZ [97,98,99,100,101,102,103,104,105,106,107,108,109,110,111,112,113,114,115,116,117,118,119,120,121,122] (by decide+kernel)))
   (af (au (i:=2) j5.nd rfl (Or.inl rfl) (dZ [65,66,67,68,69,70,71,72,73,74,75,76,77,78,79,80,81,82,83,84,85,86,87,88,89,90] (by decide+kernel)))
   (af (bH (aE xX (pv 0) (pv 1) (by with_unfolding_all rfl)) (ai (aH (aB jO (pv 2) (bf K rfl PySem.F.plainAttrs_str PySem.F.slot_str_index PySem.F.type_str_index nE (pv 1) (aa (pv 0) ab)) (fun _ _=>rfl)))) a_)
   (ai (aH (aB jO (pv 1) (bf K rfl PySem.F.plainAttrs_str PySem.F.slot_str_index PySem.F.type_str_index nE (pv 2) (aa (pv 0) ab)) (fun _ _=>rfl))))))),?_⟩
 obtain ⟨c,rfl,hc,q⟩:=h
 refine ⟨_,rfl,_,rfl,c,bb,rfl,rfl,_,rfl,cO (fun e=>?_) (fun e=>?_)⟩
 ·have hm:c∈bb:=of_decide_eq_true e
  exact ⟨_,rfl,_,rfl,rfl,_,rfl,bb,c,rfl,rfl,hm,jS,_,aU c,rfl,rfl,by decide,qD c hm,q⟩
 ·have hm:c∈jS:=hc.resolve_left fun z=>e (decide_eq_true z)
  exact ⟨_,rfl,_,rfl,rfl,_,rfl,jS,c,rfl,rfl,hm,bb,_,aU c,rfl,rfl,by decide,wq c hm,q⟩
theorem gZ:bQ P w K mg base fk 1 Cz Kh ["_law_box_here","_law_many"] (qF K):=by
 refine T.dU.fn.ok my (fun vs H Q E h=>wu h) (fun cS A outer s H vs Q E hr h=>?_)
 refine ⟨_,(af (bH (aE i0 (aB (aV K rfl) (pv 0) ag (fun _ _=>rfl)) ag (aP _)) (af (au (i:=2) my.nd rfl (Or.inl rfl) (aA fQ (aB (aV K rfl) (pv 0) ag (fun _ _=>rfl)) (pv 1)))
   (af (gE (aA oJ (aB (aV K rfl) (pv 0) ag (fun _ _=>rfl)) (pv 1)) (iE (pv 0) ag set_list))
   (ai (aH (pv 2))))) a_)
   (af (au (i:=3) my.nd rfl (Or.inl rfl) (aA fQ (aA gH (aB (aV K rfl) (pv 0) ag (fun _ _=>rfl)) ag) ag))
   (af (gE (aA br (aA fQ (aA br (aA gH (pv 3) ag) ag) ag) ag) (iE (pv 0) ag set_list))
   (ai (aH (aA fQ (aA oJ (aA br (aA gH (pv 3) ag) (aB (aV K rfl) (pv 0) ag (fun _ _=>rfl))) ag) (pv 1))))))),?_⟩
 obtain ⟨b,m,rfl,⟨x,y,hb⟩,h1,h2,q⟩:=h
 have fin: ∀(r x' y':Int),0<=r->r<m->Q (.int r) (upd H b (.lst [.int x', .int y'])):=fun r x' y' h3 h4=>by
  have e:r=((r.toNat:Nat):Int):=by omega
  rw[e]
  exact q r.toNat _ (by omega) ⟨x',y',ae⟩ (aI.upd b H _)
 refine ⟨_,rfl,b,_,0,_,rfl,rfl,aT.of hb,rfl,_,_,rfl,rfl,_,rfl,cO (fun e=>?_) (fun e=>?_)⟩
 ·refine ⟨_,rfl,b,_,0,_,rfl,rfl,aT.of hb,rfl,_,rfl,_,_,rfl,rfl,(by omega:0<m),?_⟩
  refine ⟨_,rfl,b,_,0,_,rfl,rfl,aT.of hb,rfl,_,rfl,_,_,rfl,rfl,⟨by omega,by omega⟩,_,rfl,b,_,0,0,rfl,rfl,hb,rfl,_,rfl,?_⟩
  exact fin (x%m) (x / m) y (Int.emod_nonneg _ (by omega)) (Int.emod_lt_of_pos _ (by omega))
 ·refine ⟨_,rfl,b,_,1,_,rfl,rfl,aT.of hb,rfl,_,_,rfl,rfl, .inr ⟨by decide,by decide⟩,_,_,rfl,rfl,(by decide:(0:Int)<2147483647),?_⟩
  refine ⟨_,rfl,_,_,rfl,rfl, .inr ⟨by decide,by decide⟩,_,_,rfl,rfl,_,_,rfl,rfl,(by decide:(0:Int)<2147483629),_,_,rfl,rfl,_,rfl,b,_,1,1,rfl,rfl,hb,rfl,?_⟩
  refine ⟨_,rfl,_,_,rfl,rfl, .inr ⟨by decide,by decide⟩,_,rfl,b,_,1,_,rfl,rfl,aT.of ae,rfl,_,_,rfl,rfl,_,_,rfl,rfl,⟨by decide,by decide⟩,_,rfl,_,_,rfl,rfl,(by omega:0<m),?_⟩
  exact fin _ _ _ (Int.emod_nonneg _ (by omega)) (Int.emod_lt_of_pos _ (by omega))
theorem w9:bQ P w K mg base fk 2 CD Kl ["_law_box_here","_law_things"] (nX K):=by
 have bC:=gZ (P:=P) (w:=w) (base:=base) T
 refine T.EK.fn.ok j6 (fun vs H Q E h=>sW h) (fun cS A outer s H vs Q E hr h=>?_)
 refine ⟨_,(af (au (i:=2) j6.nd rfl (Or.inl rfl) (bj (oY K rfl rfl) rfl T.z_list boot_list (aa (pv 1) ab)))
   (af (au (i:=3) j6.nd rfl (Or.inl rfl) (bp ab))
   (af (eF PassesOwn.never (aE i0 (ar (ax K rfl) rfl T.z_len PySem.boot_len (aa (pv 2) ab)) ag (aP _)) (ai (ba (bf K rfl PySem.F.plainAttrs_list PySem.F.slot_list_append PySem.F.type_list_append bt (pv 3) (aa (bf K rfl PySem.F.plainAttrs_list PySem.F.slot_list_pop PySem.F.type_list_pop i7 (pv 2) (aa (ao bC (hr.mono (by decide)) rfl T.dU.mg T.dU.fn.kp T.dU.bd .nil aC (aa (pv 0) (aa (ar (ax K rfl) rfl T.z_len PySem.boot_len (aa (pv 2) ab)) ab))) ab)) ab)))))
   (ai (aH (pv 3)))))),?_⟩
 obtain ⟨b,x,ys,rfl,hb,hx,hz,q⟩:=h
 have hs:(100000:Nat)<sizeLine:=by decide
 rcases hx with ⟨p,rfl,hp⟩ | ⟨l,rfl,rfl⟩
 ·refine ⟨_,rfl, .inr ⟨p,_,rfl,hp,fun p1 n1=>?_⟩⟩
  (repeat (first | refine ⟨_,rfl,?_⟩ | refine ⟨_,_,rfl,rfl,?_⟩ | refine ⟨_,_,_,rfl,rfl,by first | assumption | omega,by assumption,?_⟩ | refine ⟨rfl,?_⟩ | refine And.intro (by first | decide | omega | assumption | exact Nat.le_of_ble_eq_true rfl | exact .inl ⟨by decide,by decide⟩ | exact .inr ⟨by decide,by decide⟩ | exact ⟨by decide,by decide⟩ | exact ⟨by omega,by omega⟩) ?_))
  intro p2 n2
  have s1:ah H (upd (upd H p1 (.lst ys)) p2 (.lst [])):=(ah.upd n1).trans (ah.upd n2)
  have rA:p1≠b:=hb.ne n1
  have z9:H p2=none:=ah.free (ah.upd n1) n2
  have w_:p2≠b:=hb.ne z9
  have xy:p1≠p2:=fun z=>by rw[<-z,ae]at n2;cases n2
  refine ⟨fun m σ H'=> ∃F E':List V,σ=[some (.ref b),some (.ref p),some (.ref p1),some (.ref p2)]/\m=E'.length/\(F++E').Perm ys/\H' p1=some (.lst E')/\H' p2=some (.lst F)/\bK H' b/\aI b H H',⟨_,[],ys,rfl,rfl,List.Perm.refl _,by rw[aq xy,ae],ae,hb.same s1,aI.of s1⟩,?_⟩
  rintro m σ H3 ⟨F,E',rfl,rfl,hV,g9,kr,mJ,s4⟩
  have hlen:=hV.length_eq
  rw[List.length_append]at hlen
  (repeat (first | refine ⟨_,rfl,?_⟩ | refine ⟨_,_,rfl,rfl,?_⟩ | refine ⟨_,_,_,rfl,rfl,by first | assumption | omega,by assumption,?_⟩ | refine ⟨rfl,?_⟩ | refine And.intro (by first | decide | omega | assumption | exact Nat.le_of_ble_eq_true rfl | exact .inl ⟨by decide,by decide⟩ | exact .inr ⟨by decide,by decide⟩ | exact ⟨by decide,by decide⟩ | exact ⟨by omega,by omega⟩) ?_))
  refine ⟨p1,_,rfl, .inl (aT.of g9),_,_,rfl,rfl,_,rfl,cO (fun e=>?_) (fun e=>?_)⟩
  ·have e':(0:Int)<(E'.length:Nat):=of_decide_eq_true e
   refine ⟨_,rfl, .inl ⟨rfl,_,aT.of kr⟩,_,rfl, .inl ⟨rfl,_,aT.of g9⟩,?_⟩
   (repeat (first | refine ⟨_,rfl,?_⟩ | refine ⟨_,_,rfl,rfl,?_⟩ | refine ⟨_,_,_,rfl,rfl,by first | assumption | omega,by assumption,?_⟩ | refine ⟨rfl,?_⟩ | refine And.intro (by first | decide | omega | assumption | exact Nat.le_of_ble_eq_true rfl | exact .inl ⟨by decide,by decide⟩ | exact .inr ⟨by decide,by decide⟩ | exact ⟨by decide,by decide⟩ | exact ⟨by omega,by omega⟩) ?_))
   refine ⟨p1,_,rfl, .inl (aT.of g9),b,_,rfl,mJ,by omega,by omega,fun r H4 z_ xa s5=>?_⟩
   have u9:r<E'.length:=by omega
   refine ⟨p1,_,_,r,_,rfl,rfl,s5 _ _ g9 rA,by omega,by omega,by rw[seqIndex_of (by omega) (by omega),Int.toNat_natCast],List.getElem?_eq_getElem u9,?_⟩
   have jC:=eU (List.getElem?_eq_getElem u9)
   have ig:=jC.length_eq
   rw[List.length_cons]at ig
   refine ⟨p2,_,_,rfl,rfl,by rw[aq (Ne.symm xy)];exact s5 _ _ kr w_,by omega,?_⟩
   refine ⟨(E'.eraseIdx r).length,by omega,F++[E'[r]],E'.eraseIdx r,rfl,rfl,?_,by rw[aq xy,ae],ae,(xa.du rA).du w_,((s4.trans s5).du n1).du z9⟩
   rw[List.append_assoc]
   exact (List.Perm.append_left F jC).trans hV
  ·have e':E'=[]:=by
    cases E' with
    | nil=>rfl
    | cons c r=>exact absurd (decide_eq_true (by show (0:Int)<((r.length+1:Nat):Int);omega)) e
   subst e'
   rw[List.append_nil]at hV
   exact ⟨_,rfl,q p2 F H3 z9 w_ kr hV mJ s4⟩
 ·rw[aQ]at hz
  refine ⟨_,rfl, .inl ⟨l,rfl,by omega,fun p1 n1=>?_⟩⟩
  rw[<-aQ l]at hz
  generalize bY l=ys at*
  (repeat (first | refine ⟨_,rfl,?_⟩ | refine ⟨_,_,rfl,rfl,?_⟩ | refine ⟨_,_,_,rfl,rfl,by first | assumption | omega,by assumption,?_⟩ | refine ⟨rfl,?_⟩ | refine And.intro (by first | decide | omega | assumption | exact Nat.le_of_ble_eq_true rfl | exact .inl ⟨by decide,by decide⟩ | exact .inr ⟨by decide,by decide⟩ | exact ⟨by decide,by decide⟩ | exact ⟨by omega,by omega⟩) ?_))
  intro p2 n2
  have s1:ah H (upd (upd H p1 (.lst ys)) p2 (.lst [])):=(ah.upd n1).trans (ah.upd n2)
  have rA:p1≠b:=hb.ne n1
  have z9:H p2=none:=ah.free (ah.upd n1) n2
  have w_:p2≠b:=hb.ne z9
  have xy:p1≠p2:=fun z=>by rw[<-z,ae]at n2;cases n2
  refine ⟨fun m σ H'=> ∃F E':List V,σ=[some (.ref b),some (.str (S l)),some (.ref p1),some (.ref p2)]/\m=E'.length/\(F++E').Perm ys/\H' p1=some (.lst E')/\H' p2=some (.lst F)/\bK H' b/\aI b H H',⟨_,[],ys,rfl,rfl,List.Perm.refl _,by rw[aq xy,ae],ae,hb.same s1,aI.of s1⟩,?_⟩
  rintro m σ H3 ⟨F,E',rfl,rfl,hV,g9,kr,mJ,s4⟩
  have hlen:=hV.length_eq
  rw[List.length_append]at hlen
  (repeat (first | refine ⟨_,rfl,?_⟩ | refine ⟨_,_,rfl,rfl,?_⟩ | refine ⟨_,_,_,rfl,rfl,by first | assumption | omega,by assumption,?_⟩ | refine ⟨rfl,?_⟩ | refine And.intro (by first | decide | omega | assumption | exact Nat.le_of_ble_eq_true rfl | exact .inl ⟨by decide,by decide⟩ | exact .inr ⟨by decide,by decide⟩ | exact ⟨by decide,by decide⟩ | exact ⟨by omega,by omega⟩) ?_))
  refine ⟨p1,_,rfl, .inl (aT.of g9),_,_,rfl,rfl,_,rfl,cO (fun e=>?_) (fun e=>?_)⟩
  ·have e':(0:Int)<(E'.length:Nat):=of_decide_eq_true e
   refine ⟨_,rfl, .inl ⟨rfl,_,aT.of kr⟩,_,rfl, .inl ⟨rfl,_,aT.of g9⟩,?_⟩
   (repeat (first | refine ⟨_,rfl,?_⟩ | refine ⟨_,_,rfl,rfl,?_⟩ | refine ⟨_,_,_,rfl,rfl,by first | assumption | omega,by assumption,?_⟩ | refine ⟨rfl,?_⟩ | refine And.intro (by first | decide | omega | assumption | exact Nat.le_of_ble_eq_true rfl | exact .inl ⟨by decide,by decide⟩ | exact .inr ⟨by decide,by decide⟩ | exact ⟨by decide,by decide⟩ | exact ⟨by omega,by omega⟩) ?_))
   refine ⟨p1,_,rfl, .inl (aT.of g9),b,_,rfl,mJ,by omega,by omega,fun r H4 z_ xa s5=>?_⟩
   have u9:r<E'.length:=by omega
   refine ⟨p1,_,_,r,_,rfl,rfl,s5 _ _ g9 rA,by omega,by omega,by rw[seqIndex_of (by omega) (by omega),Int.toNat_natCast],List.getElem?_eq_getElem u9,?_⟩
   have jC:=eU (List.getElem?_eq_getElem u9)
   have ig:=jC.length_eq
   rw[List.length_cons]at ig
   refine ⟨p2,_,_,rfl,rfl,by rw[aq (Ne.symm xy)];exact s5 _ _ kr w_,by omega,?_⟩
   refine ⟨(E'.eraseIdx r).length,by omega,F++[E'[r]],E'.eraseIdx r,rfl,rfl,?_,by rw[aq xy,ae],ae,(xa.du rA).du w_,((s4.trans s5).du n1).du z9⟩
   rw[List.append_assoc]
   exact (List.Perm.append_left F jC).trans hV
  ·have e':E'=[]:=by
    cases E' with
    | nil=>rfl
    | cons c r=>exact absurd (decide_eq_true (by show (0:Int)<((r.length+1:Nat):Int);omega)) e
   subst e'
   rw[List.append_nil]at hV
   exact ⟨_,rfl,q p2 F H3 z9 w_ kr hV mJ s4⟩
theorem rB:bQ P w K mg base fk 3 CG Kn ["_law_box_here","_law_yard_here","_law_words_here"] (kf K):=by
 have mE:=oD (P:=P) (w:=w) (base:=base) T
 have fO:=j7 (P:=P) (w:=w) (base:=base) T
 have zo:=w9 (P:=P) (w:=w) (base:=base) T
 refine T.EL.fn.ok dc (fun vs H Q E h=>pB h) (fun cS A outer s H vs Q E hr h=>?_)
 refine ⟨_,(af (au (i:=3) dc.nd rfl (Or.inl rfl) (bp ab))
   (af (bw PassesOwn.never rfl (fv K rfl (ao mE (hr.mono (by decide)) rfl T.zX.mg T.zX.fn.kp T.zX.bd .nil aC (aa (pv 1) ab))) (aw (i:=4) dc.nd rfl (Or.inr rfl)) (af (au (i:=5) dc.nd rfl (Or.inl rfl) (bp ab))
   (af (bw PassesOwn.never rfl (fA K rfl rfl T.z_enumerate (aa (pv 2) ab)) (cm (n:=2) K rfl rfl (aN (aw (i:=6) dc.nd rfl (Or.inr rfl)) (aN (aw (i:=7) dc.nd rfl (Or.inl rfl)) cj))) (ai (ba (bf K rfl PySem.F.plainAttrs_list PySem.F.slot_list_extend PySem.F.type_list_extend g8 (pv 5) (aa (di ["_law_i","_law_letter","_law_c","_law_band"] [none,none,some 6,some 4] (gO rfl T.z_enumerate (aa (pv 7) ab)) ⟨⟨rfl,rfl,by first | exact .inl rfl | exact .inr rfl⟩,⟨⟨rfl,rfl,by first | exact .inl rfl | exact .inr rfl⟩,trivial⟩⟩ (fun _ _ _ _=>(cm (n:=2) K rfl rfl (aN (aw (i:=0) (by decide+kernel:List.Nodup (["_law_i","_law_letter","_law_c","_law_band"]:List Str)) rfl (Or.inl rfl)) (aN (aw (i:=1) (by decide+kernel:List.Nodup (["_law_i","_law_letter","_law_c","_law_band"]:List Str)) rfl (Or.inl rfl)) cj)))) (fun _ _ _ _=>(jN (aE (r9 K rfl) (pv 1) (bI (aa (pv 3) (aa (ao fO (hr.mono (by decide)) rfl T.rJ.mg T.rJ.fn.kp T.rJ.bd .nil aC (aa (pv 3) ab)) ab))) (by with_unfolding_all rfl)))) (fun _ _ _ _=>(bI (aa (pv 2) (aa (pv 0) ab))))) ab)))))
   (ai (ba (bf K rfl PySem.F.plainAttrs_list PySem.F.slot_list_append PySem.F.type_list_append bt (pv 3) (aa (bj (bJ K rfl) rfl T.z_tuple boot_tuple (aa (ao zo (hr.mono (by decide)) rfl T.EK.mg T.EK.fn.kp T.EK.bd .nil aC (aa (pv 0) (aa (pv 5) ab))) ab)) ab)))))))
   (ai (aH (bI (aa (bj (bJ K rfl) rfl T.z_tuple boot_tuple (aa (pv 2) ab)) (aa (bj (bJ K rfl) rfl T.z_tuple boot_tuple (aa (pv 3) ab)) ab))))))),?_⟩
 obtain ⟨b,y,wt,ws,rfl,hb,hy,hz,S3,tN,hw,q⟩:=h
 have hs:(100000:Nat)<sizeLine:=by decide
 have Kv:=hw.jQ
 (repeat (first | refine ⟨_,rfl,?_⟩ | refine ⟨_,_,rfl,rfl,?_⟩ | refine ⟨_,_,_,rfl,rfl,by first | assumption | omega,by assumption,?_⟩ | refine ⟨rfl,?_⟩ | refine And.intro (by first | decide | omega | assumption | exact Nat.le_of_ble_eq_true rfl | exact .inl ⟨by decide,by decide⟩ | exact .inr ⟨by decide,by decide⟩ | exact ⟨by decide,by decide⟩ | exact ⟨by omega,by omega⟩) ?_))
 intro p1 n1
 have rA:p1≠b:=hb.ne n1
 have YT:p1≠wt:=Ne.symm (ak tN n1)
 refine ⟨_,rfl,y,rfl,by omega,fun p2 l2 H1 n2 kr oS Mx s1=>?_⟩
 rw[lP hy.lt]at oS
 have el:=hR oS Mx
 subst el
 have VC:H p2=none:=ah.free (ah.upd n1) n2
 have w_:p2≠b:=hb.ne VC
 have xy:p1≠p2:=fun z=>by rw[<-z,ae]at n2;cases n2
 have S4:ah H H1:=(ah.upd n1).trans s1
 have g9:H1 p1=some (.lst []):=s1 _ _ ae
 have Cb:=eY hy
 refine ⟨p2,rfl,⟨_,aT.of kr⟩,?_⟩
 refine gG (K:=K) (a:=p2) (xs:=bY (aD y)) (fun i σ H'=> ∃(os:List Od) (bv sv cv wv:Option V),σ=[some (.ref b),some (.str (S y)),some (.ref wt),some (.ref p1),bv,sv,cv,wv]/\H' p1=some (.lst (mV os))/\H' p2=some (.lst (bY (aD y)))/\os.length=i/\(∀o∈os,fZ H' o)/\(∀(j:Nat) (o:Od) (c:Nat),os[j]? =some o->(aD y)[j]? =some c->(o.ps.map Pr.pair).Perm (bz c ws ws.length))/\bK H' b/\aI b H H')
  ⟨[],none,none,none,none,rfl,g9,kr,rfl,fun _ h=>absurd h List.not_mem_nil,fun j o c h=>by simp at h,hb.same S4,aI.of S4⟩ (fun i σ H' _ ⟨_,_,_,_,_,_,_,h,_⟩=>aT.of h) ?_ ?_
 ·rintro i x σ H2 hx ⟨os,bv,sv,cv,wv,rfl,g9,kr,xA,zY,EW,iI,s2⟩
  obtain ⟨band,zp,rfl⟩:=dH hx
  have hi:i<(aD y).length:=(List.getElem?_eq_some_iff.mp zp).1
  have Mz:Lt band:=hy.lt band (List.mem_filter.mp ((cW y).mem_iff.mp (List.mem_of_getElem? zp))).1
  (repeat (first | refine ⟨_,rfl,?_⟩ | refine ⟨_,_,rfl,rfl,?_⟩ | refine ⟨_,_,_,rfl,rfl,by first | assumption | omega,by assumption,?_⟩ | refine ⟨rfl,?_⟩ | refine And.intro (by first | decide | omega | assumption | exact Nat.le_of_ble_eq_true rfl | exact .inl ⟨by decide,by decide⟩ | exact .inr ⟨by decide,by decide⟩ | exact ⟨by decide,by decide⟩ | exact ⟨by omega,by omega⟩) ?_))
  intro p3 n3
  have zq:=s2 _ _ tN S3
  refine ⟨_,rfl,wt,rfl,⟨_,aW.of ((ah.upd n3) _ _ zq)⟩,?_⟩
  refine eG (K:=K) (a:=wt) (xs:=bX ws) (fun j σ H'=> ∃(ps:List Pr) (cv wv:Option V),σ=[some (.ref b),some (.str (S y)),some (.ref wt),some (.ref p1),some (.str (S [band])),some (.ref p3),cv,wv]/\H' p3=some (.lst (bR ps))/\(∀p∈ps,cU H' p)/\ps.map Pr.pair=bz band ws j/\ps.length<=12*j/\ah H2 H')
   ⟨[],cv,wv,rfl,ae,fun _ h=>absurd h List.not_mem_nil,rfl,Nat.zero_le _,ah.upd n3⟩ (fun j σ H' _ ⟨_,_,_,_,_,_,_,_,h⟩=>aW.of (h _ _ zq)) ?_ ?_
  ·rintro j x σ H3 T Bn ⟨ps,VD,VE,rfl,ER,kl,jC,ig,s3⟩ nT
   have hj:j<ws.length:=by
    have:=(List.getElem?_eq_some_iff.mp Bn).1
    rwa [aS]at this
   rw[iL hj]at Bn
   cases Bn
   have w5:ws[j]? =some ws[j]:=List.getElem?_eq_getElem hj
   obtain ⟨tP,rq⟩:=hw.all _ (List.getElem_mem hj)
   generalize ws[j]=w at w5 tP rq ⊢
   refine ⟨T,_,rfl,aW.of ae,rfl,_,_,rfl,_,_,rfl,rfl,?_⟩
   have S5:=ah.upd (o:= .tup [.int j, .str (S w)]) nT
   have HS:=S5 _ _ ER
   refine ⟨_,rfl, .inl ⟨rfl,_,aT.of HS⟩,_,rfl,w,rfl,?_⟩
   refine vN (l:=w) (fun m acc H'=>ah (upd H3 T (.tup [.int j, .str (S w)])) H'/\ ∃vs:List Pr,acc=bR vs/\(∀p∈vs,cU H' p)/\vs.map Pr.pair=ef band j w m/\vs.length<=m) (by omega) ⟨ah.refl _,[],rfl,fun _ h=>absurd h List.not_mem_nil,rfl,Nat.le_refl _⟩ ?_ ?_
   ·rintro m l acc H4 T2 Nx hm gA ⟨s4,vs,rfl,zr,Kw,MA⟩ Mo nx
    have Vp:m<w.length:=(List.getElem?_eq_some_iff.mp hm).1
    have es:=lR (band:=band) (c:=j) hm
    rw[show rG band l=(decide (l=band)||decide (l=aU band)) from rfl]at es
    refine ⟨T2,_,rfl,aW.of ae,rfl,_,_,rfl,_,_,rfl,rfl,?_⟩
    refine ⟨⟨rfl,rfl,trivial⟩,?_⟩
    have VF:=ah.upd (o:= .tup [.int m, .str (S [l])]) Mo
    refine ⟨_,rfl,_,rfl,_,rfl,band,rfl,Mz,by show 2<=sizeLine;decide,fun t nt=>?_⟩
    refine ⟨t,_,rfl, .inr (aW.of ae),rfl,rfl,_,rfl,?_⟩
    have HU:=VF.trans (ah.upd (o:= .tup [.str (S [band]), .str (S [aU band])]) nt)
    generalize upd (upd H4 T2 (.tup [.int m, .str (S [l])])) t (.tup [.str (S [band]), .str (S [aU band])])=H5 at HU ⊢
    show if Av (.str (S [l])) [.str (S [band]), .str (S [aU band])]=true then _ else _
    rw[uv]
    refine cO (fun z=>?_) (fun z=>?_)
    ·rw[if_pos z]at es
     refine ⟨_,rfl,_,rfl,by show 2<=sizeLine;decide,fun t2 FL=>?_⟩
     refine nx _ _ (by simpa using gA) ⟨(s4.trans HU).trans (ah.upd FL),vs++[⟨t2,j,m⟩],gU vs ⟨t2,j,m⟩,fun p hp=>?_,by rw[List.map_append,Kw,es];rfl,by rw[List.length_append];show vs.length+1<=_;omega⟩
     rcases List.mem_append.mp hp with g | g
     ·exact (zr p g).same (HU.trans (ah.upd FL))
     ·have e2:=List.mem_singleton.mp g
      subst e2
      exact ⟨ae,by show j<1000;omega,by show m<1000;omega⟩
    ·rw[if_neg z,List.append_nil]at es
     exact nx _ _ (Nat.le_succ_of_le gA) ⟨s4.trans HU,vs,rfl,fun p hp=>(zr p hp).same HU,by rw[es];exact Kw,by omega⟩
   ·rintro acc H4 D gA ⟨s4,vs,rfl,zr,Kw,MA⟩ hD
    have Bo:=s4 _ _ HS
    refine ⟨p3,D,_,_,rfl,rfl,(ah.upd hD) _ _ Bo,ae,by rw[aZ,aZ];omega,?_⟩
    rw[uO]
    have S6:ah H3 (upd H4 D (.lst (bR vs))):=(S5.trans s4).trans (ah.upd hD)
    have HV:=(ah.upd (o:= .lst (bR vs)) hD) _ _ Bo
    have VG:H2 p3=none:=n3
    refine ⟨ps++vs,_,_,rfl,ae,fun p hp=>?_,by rw[List.map_append,jC,Kw,fe w5],by rw[List.length_append];omega,fun a o ea=>by rw[aq (ak ea VG)];exact S6 _ _ (s3 a o ea)⟩
    rcases List.mem_append.mp hp with g | g
    ·exact ((kl p g).same S6).ts (aF.fR HV)
    ·exact ((zr p g).same (ah.upd hD)).ts (aF.fR HV)
  ·rintro σ H3 ⟨ps,VD,VE,rfl,ER,kl,jC,ig,s3⟩
   rw[aS]at jC ig
   have mJ:=iI.same s3
   have b3:p3≠b:=iI.ne n3
   have MB:=s3 _ _ g9
   refine ⟨_,rfl, .inl ⟨rfl,_,aT.of MB⟩,?_⟩
   refine ⟨_,rfl,_,rfl,b, .ref p3,bR ps,rfl,mJ, .inl ⟨p3,rfl, .inl (aT.of ER)⟩,by rw[aZ];omega,fun qa ys H4 nq qb hq uq xa s4=>?_⟩
   obtain ⟨tq,e1,e2⟩:=sX (f:=fun p:Pr=>V.ref p.t) uq ps rfl
   have e3:ys=bR tq:=e1
   subst e3
   have MC:=aF.box mJ s4
   refine ⟨qa,_,rfl, .inl ⟨aT.of hq,fun t nt=>?_⟩⟩
   have MD:aI b H2 (upd H4 t (.tup (bR tq))):=((aI.of s3).trans s4).after (ah.upd nt)
   have EX:=MD _ _ g9 rA
   have ME:aF H4 (upd H4 t (.tup (bR tq))):=aF.du nt
   refine ⟨p1,_,_,rfl,rfl,EX,by rw[pw];omega,?_⟩
   have S7:=(MC.trans ME).trans (aF.fR (o:= .lst (mV os++[.ref t])) EX)
   have AM: ∀p∈tq,p∈ps:=fun p hp=>e2.mem_iff.mp hp
   have hlen:=e2.length_eq
   refine ⟨os++[⟨t,tq⟩],_,_,_,_,rfl,by rw[ae];exact congrArg (fun x=>some (HO.lst x)) (qQ os ⟨t,tq⟩),by rw[aq (Ne.symm xy)];exact MD _ _ kr w_,by simp[xA],fun o ho=>?_,fun j o c hj hc=>?_,?_,?_⟩
   ·rcases List.mem_append.mp ho with g | g
    ·exact ((zY o g).same s3).ts S7
    ·have eo:=List.mem_singleton.mp g
     subst eo
     refine ⟨?_,fun p hp=>(kl p (AM p hp)).ts S7,by show tq.length<=100;omega⟩
     exact (aF.fR (o:= .lst (mV os++[.ref t])) EX) _ _ ae
   ·by_cases cN:j<os.length
    ·rw[List.getElem?_append_left cN]at hj
     exact EW j o c hj hc
    ·have VH:j=os.length:=by
      have:=(List.getElem?_eq_some_iff.mp hj).1
      rw[List.length_append]at this
      have:j<os.length+1:=this
      omega
     subst VH
     rw[List.getElem?_append_right (Nat.le_refl _),Nat.sub_self]at hj
     have eo:(⟨t,tq⟩:Od)=o:=by simpa using hj
     rw[xA,zp]at hc
     have ec:band=c:=Option.some.inj hc
     subst eo
     subst ec
     exact (e2.map Pr.pair).trans (by rw[jC])
   ·exact ((xa.same (ah.upd nt)).du rA)
   ·exact (s2.trans MD).du n1
 ·rintro σ H2 ⟨os,bv,sv,cv,wv,rfl,g9,kr,xA,zY,EW,iI,s2⟩
  rw[aQ]at xA
  have zq:=s2 _ _ tN S3
  refine ⟨_,rfl,wt,_,rfl, .inr ⟨aW.of zq,?_⟩⟩
  refine ⟨_,rfl,p1,_,rfl, .inl ⟨aT.of g9,fun t nt=>?_⟩⟩
  refine ⟨by show 2<=sizeLine;decide,fun dr EY=>?_⟩
  have HW:H t=none:=s2.none nt (iI.ne nt)
  have sA:ah H2 (upd (upd H2 t (.tup (mV os))) dr (.tup [.ref wt, .ref t])):=(ah.upd nt).trans (ah.upd EY)
  have MF:t≠dr:=fun z=>by rw[<-z,ae]at EY;cases EY
  refine q dr os _ ⟨⟨wt,t,ae,sA _ _ zq,by rw[aq MF,ae]⟩,fun o ho=>(zY o ho).same sA⟩ ⟨xA,EW⟩ (iI.same sA) (s2.after sA)
theorem tQ:bQ P w K mg base fk 1 f4 d4 ["orders","band","number"] (lX K):=by
 refine T.F4.fn.ok iT (fun vs H Q E h=>qV h) (fun cS A outer s H vs Q E hr h=>?_)
 refine ⟨_,(af (bH (PW.pt (p7 (C7 (vR (ip hr) (pv 1) (pv 0)) (by with_unfolding_all rfl)) (kM (iD (gI kT kR ag (pv 2) (aA cK (ar (ax K rfl) rfl T.z_len PySem.boot_len (aa (fS (ip hr) (pv 0) (pv 1) (fun _ _=>rfl)) ab)) ag)))))) (ai (aH fc)) a_)
   (af (au (i:=3) iT.nd rfl (Or.inl rfl) (fS (ip hr) (pv 0) (pv 1) (fun _ _=>rfl)))
   (af (au (i:=4) iT.nd rfl (Or.inl rfl) (aB (aV K rfl) (pv 3) (pv 2) (fun _ _=>rfl)))
   (af (gE (aB (aV K rfl) (pv 3) (aA br (pv 2) ag) (fun _ _=>rfl)) (iE (pv 3) (pv 2) set_list))
   (af (gE (pv 4) (iE (pv 3) (aA br (pv 2) ag) set_list))
   (ai (aH fc))))))),?_⟩
 obtain ⟨d,bs,os,b,j,n,o,rfl,hO,nd,Cb,hb,ho,hn,q⟩:=h
 have hs:(100000:Nat)<sizeLine:=by decide
 have iR:=List.mem_of_getElem? ho
 have tu:=hO.ok o iR
 have MG:=tu.fw
 have MH:=dN nd hb ho
 have dg:gR H d (V.str (S [b])) (some (.ref o.o)):=by rw[<-MH];exact gR.k (k:=kS [b]) hO.dk
 have h0:o.ps[n]? =some (o.ps[n]'(by omega)):=List.getElem?_eq_getElem _
 have h1:o.ps[n+1]? =some o.ps[n+1]:=List.getElem?_eq_getElem hn
 generalize YU:(o.ps[n]'(by omega))=p0 at h0
 generalize g9:o.ps[n+1]=p1 at h1
 have g0:(bR o.ps)[n]? =some (V.ref p0.t):=by unfold bR;rw[List.getElem?_map,h0];rfl
 have g1:(bR o.ps)[n+1]? =some (V.ref p1.t):=by unfold bR;rw[List.getElem?_map,h1];rfl
 have VI:swapAt n o.ps=(o.ps.set n p1).set (n+1) p0:=by unfold swapAt;rw[h0,h1]
 have en:(n:Int)+1=((n+1:Nat):Int):=by omega
 refine ⟨_,rfl,_,rfl,d,_,rfl,dg,_,rfl,dq rfl ?_⟩
 refine ⟨_,rfl,_,_,rfl,rfl,_,rfl,fT (decide_eq_true (by omega)) ?_⟩
 refine ⟨_,rfl,_,rfl,d,_,rfl,dg,o.o,_,rfl, .inl (aT.of tu.tp),_,_,rfl,rfl,_,_,rfl,rfl,_,rfl,dq ?_ ?_⟩
 ·rw[aZ,decide_eq_true (by omega)];rfl
 refine ⟨_,rfl,_,rfl,d,_,rfl,dg,?_⟩
 refine ⟨_,rfl,_,rfl,o.o,_,_,_,rfl,rfl,aT.of tu.tp,aM g0,?_⟩
 refine ⟨_,rfl,_,rfl,_,_,rfl,rfl,o.o,_,_,_,rfl,rfl,aT.of tu.tp,by rw[en];exact aM g1,?_⟩
 refine ⟨_,rfl,_,rfl,o.o,_,_,n,rfl,rfl,tu.tp,?_,?_⟩
 ·rw[aZ];exact js (by omega)
 rw[uP]
 refine ⟨_,rfl,_,rfl,_,rfl,_,_,rfl,rfl,o.o,_,_,n+1,rfl,rfl,ae,?_,?_⟩
 ·rw[en,aZ,List.length_set];exact js (by omega)
 rw[uP,tY, <-VI]
 have Fx:=swap_perm n o.ps
 refine q _ (hO.mut ho (fun p hp=>tu.pr p (Fx.mem_iff.mp hp)) (by rw[Fx.length_eq];exact MG)) fun a u ea z=>by rw[aq z];exact ea
theorem zu:bQ P w K mg base fk 2 CC Kk ["_law_box_here","_law_yard_here","_law_top"] (qH K):=by
 have bC:=gZ (P:=P) (w:=w) (base:=base) T
 refine T.EJ.fn.ok zj (fun vs H Q E h=>wA h) (fun cS A outer s H vs Q E hr h=>?_)
 refine ⟨_,(ai (aH (bf K rfl PySem.F.plainAttrs_str PySem.F.slot_str_join PySem.F.type_str_join (lA K rfl) (dZ [] (by decide+kernel)) (aa (di ["_law_k","_law_yard_here","_law_box_here"] [none,some 1,some 0] (eE rfl T.z_range (aa (ao bC (hr.mono (by decide)) rfl T.dU.mg T.dU.fn.kp T.dU.bd .nil aC (aa (pv 0) (aa (aA br (pv 2) ag) ab))) ab)) ⟨⟨rfl,rfl,by first | exact .inl rfl | exact .inr rfl⟩,⟨⟨rfl,rfl,by first | exact .inl rfl | exact .inr rfl⟩,trivial⟩⟩ (fun _ _ _ _=>(aw (i:=0) (by decide+kernel:List.Nodup (["_law_k","_law_yard_here","_law_box_here"]:List Str)) rfl (Or.inl rfl))) (fun _ _ _ _=>jM) (fun _ _ _ _=>(aB jO (pv 1) (ao bC (hr.mono (by decide)) rfl T.dU.mg T.dU.fn.kp T.dU.bd .nil aC (aa (pv 2) (aa (ar aX rfl T.z_len PySem.boot_len (aa (pv 1) ab)) ab))) (fun _ _=>rfl)))) ab)))),?_⟩
 obtain ⟨b,y,top,rfl,hb,hy,YV,ht,q⟩:=h
 have hs:(100000:Nat)<sizeLine:=by decide
 (repeat (first | refine ⟨_,rfl,?_⟩ | refine ⟨_,_,rfl,rfl,?_⟩ | refine ⟨rfl,?_⟩ | refine And.intro (by first | decide | omega | assumption | exact Nat.le_of_ble_eq_true rfl | exact .inl ⟨by decide,by decide⟩ | exact .inr ⟨by decide,by decide⟩ | exact ⟨by decide,by decide⟩ | exact ⟨by omega,by omega⟩) ?_))
 refine ⟨b,_,rfl,hb,by omega,by omega,fun n H1 hn Bp s1=>?_⟩
 (repeat (first | refine ⟨_,rfl,?_⟩ | refine ⟨_,_,rfl,rfl,?_⟩ | refine ⟨rfl,?_⟩ | refine And.intro (by first | decide | omega | assumption | exact Nat.le_of_ble_eq_true rfl | exact .inl ⟨by decide,by decide⟩ | exact .inr ⟨by decide,by decide⟩ | exact ⟨by decide,by decide⟩ | exact ⟨by omega,by omega⟩) ?_))
 refine lx (fun i acc H'=>bK H' b/\aI b H H'/\ ∃l:List Nat,acc=bY l/\l.length=i/\ ∀c∈l,c∈y) (by simp;omega) ⟨Bp,s1,[],rfl,rfl,by simp⟩ ?_ ?_
 ·rintro i acc H2 Nx hi hl ⟨iI,s2,l,rfl,oS,hm⟩ nx
  have VJ:0<y.length:=List.length_pos_iff.mpr hy
  refine ⟨⟨rfl,rfl,trivial⟩,jk ?_⟩
  (repeat (first | refine ⟨_,rfl,?_⟩ | refine ⟨_,_,rfl,rfl,?_⟩ | refine ⟨rfl,?_⟩ | refine And.intro (by first | decide | omega | assumption | exact Nat.le_of_ble_eq_true rfl | exact .inl ⟨by decide,by decide⟩ | exact .inr ⟨by decide,by decide⟩ | exact ⟨by decide,by decide⟩ | exact ⟨by omega,by omega⟩) ?_))
  refine ⟨b,_,rfl,iI,by omega,by omega,fun r H3 MI mJ s3=>?_⟩
  have z_:r<y.length:=by omega
  refine ⟨y,_,y[r],rfl,rfl,by omega,aM (List.getElem?_eq_getElem z_),?_⟩
  refine nx _ _ (by simpa using hl) ⟨mJ,s2.trans s3,l++[y[r]],eT _ _,by simp[oS],fun c hc=>?_⟩
  rcases List.mem_append.mp hc with z | z
  ·exact hm c z
  ·rw[List.mem_singleton.mp z];exact List.getElem_mem z_
 ·rintro acc H2 D hl ⟨iI,s2,l,rfl,oS,hm⟩ hD
  have zw:l.length<=top:=by simp at oS;omega
  refine ⟨D,l.map fun c=>[c],rfl,rfl,aT.of ?_,?_,?_⟩
  ·rw[ae, <-fB]
  ·rw[A6];omega
  ·rw[uJ]
   exact q l _ hm zw (iI.same (ah.upd hD)) (s2.trans (aI.of (ah.upd hD)))
theorem xb:bQ P w K mg base fk 3 CH Ko ["_law_box_here","_law_yard_here"] (oh K):=by
 have bC:=gZ (P:=P) (w:=w) (base:=base) T
 have Bq:=zu (P:=P) (w:=w) (base:=base) T
 refine T.EM.fn.ok eP (fun vs H Q E h=>tG h) (fun cS A outer s H vs Q E hr h=>?_)
 refine ⟨_,(af (au (i:=2) eP.nd rfl (Or.inl rfl) ag)
   (af (au (i:=3) eP.nd rfl (Or.inl rfl) (bp ab))
   (af (bw PassesOwn.never rfl (eE rfl T.z_range (aa (aA br ag (ao bC (hr.mono (by decide)) rfl T.dU.mg T.dU.fn.kp T.dU.bd .nil aC (aa (pv 0) (aa ag ab)))) ab)) (aw (i:=4) eP.nd rfl (Or.inl rfl)) (af (au (i:=5) eP.nd rfl (Or.inl rfl) (ao Bq (hr.mono (by decide)) rfl T.EJ.mg T.EJ.fn.kp T.EJ.bd .nil aC (aa (pv 0) (aa (pv 1) (aa (ar (vq rfl) rfl T.z_min boot_min (aa (pv 2) (aa (aB (aV K rfl) (bp (aa ag (aa ag (aa ag ab)))) (ao bC (hr.mono (by decide)) rfl T.dU.mg T.dU.fn.kp T.dU.bd .nil aC (aa (pv 0) (aa ag ab))) (fun _ _=>rfl)) ab))) ab)))))
   (af (au (i:=2) eP.nd rfl (Or.inl rfl) (aA cK (pv 2) (ar aX rfl T.z_len PySem.boot_len (aa (pv 5) ab))))
   (ai (ba (bf K rfl PySem.F.plainAttrs_list PySem.F.slot_list_append PySem.F.type_list_append bt (pv 3) (aa (pv 5) ab)))))))
   (ai (aH (bj (bJ K rfl) rfl T.z_tuple boot_tuple (aa (pv 3) ab))))))),?_⟩
 obtain ⟨b,y,rfl,hb,MJ,hz,q⟩:=h
 have hs:(100000:Nat)<sizeLine:=by decide
 (repeat (first | refine ⟨_,rfl,?_⟩ | refine ⟨_,_,rfl,rfl,?_⟩ | refine ⟨_,_,_,rfl,rfl,by first | assumption | omega,by assumption,?_⟩ | refine ⟨rfl,?_⟩ | refine And.intro (by first | decide | omega | assumption | exact Nat.le_of_ble_eq_true rfl | exact .inl ⟨by decide,by decide⟩ | exact .inr ⟨by decide,by decide⟩ | exact ⟨by decide,by decide⟩ | exact ⟨by omega,by omega⟩) ?_))
 intro p1 n1
 have rA:p1≠b:=hb.ne n1
 refine ⟨_,rfl,b,3,rfl,hb.same (ah.upd n1),by decide,by decide,fun n H1 hn Bp s1=>?_⟩
 refine ⟨_,_,rfl,rfl,_,rfl,by omega,by omega,?_⟩
 refine fu (fun i σ H'=> ∃(ws:List (List Nat)) (lf:Nat) (kv wv:Option V),σ=[some (.ref b),some (.str (S y)),some (.int lf),some (.ref p1),kv,wv]/\H' p1=some (.lst (bX ws))/\ws.length=i/\(∀w∈ws,(∀c∈w,c∈y)/\w.length<=12)/\lf<=24/\bK H' b/\aI b H H')
  ⟨[],12,none,none,rfl,s1 _ _ ae rA,rfl,fun _ h=>absurd h List.not_mem_nil,by decide,Bp,(aI.of (ah.upd n1)).trans s1⟩ ?_ ?_
 ·rintro i σ H2 hi ⟨ws,lf,kv,wv,rfl,g9,qf,hw,VL,iI,s2⟩
  have YW:i<4:=by omega
  refine ⟨_,rfl,_,rfl,_,rfl,by decide,fun p2 n2=>?_⟩
  have w_:p2≠b:=iI.ne n2
  refine ⟨_,rfl,b,3,rfl,iI.same (ah.upd n2),by decide,by decide,fun r H3 MI mJ s3=>?_⟩
  obtain ⟨v,hv,MK⟩: ∃v:Nat,ny [V.int 3,V.int 6,V.int 12] ((r:Nat):Int)=some (V.int v)/\v<=12:=by
   have h3:r=0\/r=1\/r=2:=by omega
   rcases h3 with rfl | rfl | rfl
   ·exact ⟨3,aM (xs:=[V.int 3,V.int 6,V.int 12]) (j:=0) rfl,by decide⟩
   ·exact ⟨6,aM (xs:=[V.int 3,V.int 6,V.int 12]) (j:=1) rfl,by decide⟩
   ·exact ⟨12,aM (xs:=[V.int 3,V.int 6,V.int 12]) (j:=2) rfl,by decide⟩
  refine ⟨p2,_,_,_,rfl,rfl,aT.of (s3 _ _ ae w_),hv,_,_,rfl,?_⟩
  obtain ⟨top,ht,zZ,CL⟩: ∃top:Nat,(if (v:Int)<(lf:Int) then (v:Int) else (lf:Int))=(top:Int)/\top<=lf/\top<=12:=by
   split
   ·exact ⟨v,rfl,by omega,MK⟩
   ·exact ⟨lf,rfl,Nat.le_refl _,by omega⟩
  rw[ht]
  refine ⟨b,y,top,rfl,mJ,MJ,by omega,by omega,fun w H4 HX rq xa s4=>?_⟩
  have S8:aI b H2 H4:=((aI.of (ah.upd n2)).trans s3).trans s4
  have Bo:=S8 _ _ g9 rA
  refine ⟨_,rfl,_,rfl,w,rfl,by omega,_,_,rfl,rfl,?_⟩
  refine ⟨_,rfl, .inl ⟨rfl,_,aT.of Bo⟩,_,rfl,p1,_,_,rfl,rfl,Bo,by rw[aS];omega,?_⟩
  rw[lG]
  have VM:((lf:Int) - (w.length:Int))=((lf - w.length:Nat):Int):=by omega
  refine ⟨ws++[w],lf - w.length,_,_,by rw[<-VM];rfl,ae,by simp[qf],fun u hu=>?_,by omega,xa.du rA,(s2.trans S8).du n1⟩
  rcases List.mem_append.mp hu with z | z
  ·exact hw u z
  ·rw[List.mem_singleton.mp z];exact ⟨HX,by omega⟩
 ·rintro σ H2 ⟨ws,lf,kv,wv,rfl,g9,qf,hw,VL,iI,s2⟩
  refine ⟨_,rfl,p1,_,rfl, .inl ⟨aT.of g9,fun t nt=>?_⟩⟩
  have HW:H t=none:=s2.none nt (iI.ne nt)
  exact q t ws _ HW (hb.ne HW) ae ⟨by omega,hw⟩ (fun z=>by rw[z]at qf;simp at qf;omega) (iI.du (hb.ne HW)) (s2.du HW)
theorem m7:bQ P w K mg base fk 1 Cq Kb ["band","one","other"] (iA K):=by
 refine T.EB.fn.ok bV (fun vs H Q E h=>mn h) (fun cS A outer s H vs Q E hr h=>?_)
 refine ⟨_,(af (au (i:=3) bV.nd rfl (Or.inl rfl) (bp ab))
   (af (au (i:=4) bV.nd rfl (Or.inl rfl) (bj (cR K rfl) rfl T.z_list boot_list (aa (pv 1) ab)))
   (af (bw PassesOwn.never rfl (fA K rfl rfl T.z_enumerate (aa (pv 2) ab)) (cm (n:=2) K rfl rfl (aN (aw (i:=5) bV.nd rfl (Or.inl rfl)) (aN (aw (i:=6) bV.nd rfl (Or.inl rfl)) cj))) (af (au (i:=7) bV.nd rfl (Or.inl rfl) (bf K rfl PySem.F.plainAttrs_list PySem.F.slot_list_index PySem.F.type_list_index (wb K rfl hr) (pv 4) (aa (pv 6) ab)))
   (af (bw PassesOwn.never rfl (v_ rfl T.z_range (aa (pv 7) (aa (pv 5) (aa (xH rO ag) ab)))) (aw (i:=8) bV.nd rfl (Or.inl rfl)) (ai (ba (bf K rfl PySem.F.plainAttrs_list PySem.F.slot_list_append PySem.F.type_list_append bt (pv 3) (aa (bI (aa (dZ [115,119,97,112] (by decide+kernel)) (aa (pv 0) (aa (aA cK (pv 8) ag) ab)))) ab)))))
   (ai (ba (bf K rfl PySem.F.plainAttrs_list PySem.F.slot_list_insert PySem.F.type_list_insert jR (pv 4) (aa (pv 5) (aa (bf K rfl PySem.F.plainAttrs_list PySem.F.slot_list_pop PySem.F.type_list_pop i7 (pv 4) (aa (pv 7) ab)) ab))))))))
   (ai (aH (pv 3)))))),?_⟩
 obtain ⟨b,o,r,rfl,ho,ET,hV,zU,q⟩:=h
 have hs:(100000:Nat)<sizeLine:=by decide
 have YX:=ho.fw
 have YY:=ET.fw
 (repeat (first | refine ⟨_,rfl,?_⟩ | refine ⟨_,_,rfl,rfl,?_⟩ | refine ⟨_,_,_,rfl,rfl,by first | assumption | omega,by assumption,?_⟩ | refine ⟨rfl,?_⟩ | refine And.intro (by first | decide | omega | assumption | exact Nat.le_of_ble_eq_true rfl | exact .inl ⟨by decide,by decide⟩ | exact .inr ⟨by decide,by decide⟩ | exact ⟨by decide,by decide⟩ | exact ⟨by omega,by omega⟩) ?_))
 intro D nD
 have s1:=ah.upd (o:=HO.lst []) nD
 have ES:fG H (upd H D (HO.lst [])) D []:=⟨ae,fun _ h=>absurd h List.not_mem_nil,s1⟩
 generalize upd H D (HO.lst [])=H1 at ES s1 ⊢
 refine ⟨_,rfl,o.o,_,rfl, .inr (aW.of (s1 _ _ ho.tp)),fun l nl=>?_⟩
 have s2:=ah.upd (o:=HO.lst (bR o.ps)) nl
 have oS:upd H1 l (HO.lst (bR o.ps)) l=some (HO.lst (bR o.ps)):=ae
 have CM:=ES.same s2
 have VN:H l=none:=ah.free s1 nl
 have S9:l≠D:=(ak ES.ls nl).symm
 have Br: ∀p∈o.ps,cU (upd H1 l (HO.lst (bR o.ps))) p:=fun p hp=>(ho.pr p hp).same (s1.trans s2)
 generalize upd H1 l (HO.lst (bR o.ps))=H2 at oS CM Br s2 ⊢
 have Kt:=(s1.trans s2) _ _ ET.tp
 refine ⟨_,rfl,r.o,rfl,⟨_,aW.of Kt⟩,?_⟩
 refine eG (K:=K) (a:=r.o) (xs:=bR r.ps) (fun i σ H'=> ∃(cur:List Pr) (ds:List Dd) (ks:List Nat) (nv sv pv bv:Option V),σ=[some (.str (S [b])),some (.ref o.o),some (.ref r.o),some (.ref D),some (.ref l),nv,sv,pv,bv]/\fG H H' D ds/\H' l=some (.lst (bR cur))/\(∀p∈cur,cU H' p)/\
   ds.map Dd.e=ks.map (fun k=> .swap b k)/\SP (bg o) ks (cur.map Pr.pair)/\(cur.map Pr.pair).take i=(bg r).take i/\ds.length<=100*i)
  ⟨o.ps,[],[],none,none,none,none,rfl,CM,oS,Br,rfl, .nil,rfl,Nat.zero_le _⟩ (fun i σ H' _ ⟨_,_,_,_,_,_,_,_,h,_⟩=>aW.of (h.sm _ _ ET.tp)) ?_ ?_
 ·rintro i x σ H3 T hx ⟨cur,ds,ks,nv,sv,pv,bv,rfl,oB,zw,EZ,m6,rE,vt,z0⟩ nT
  obtain ⟨p,hp,rfl⟩:=yS hx
  have hi:i<r.ps.length:=(List.getElem?_eq_some_iff.mp hp).1
  have ML:(bg r)[i]? =some p.pair:=by unfold bg;rw[List.getElem?_map,hp];rfl
  have HY:=(ET.pr p (List.mem_of_getElem? hp)).same oB.sm
  have xB:(cur.map Pr.pair).Perm (bg r):=rE.perm.trans hV
  have mh:cur.length=r.ps.length:=by have:=xB.length_eq;unfold bg at this;rwa [List.length_map,List.length_map]at this
  obtain ⟨j,hj,VO⟩:=wX (xB.mem_iff.mpr (List.mem_of_getElem? ML))
  have xt:j<cur.length:=by have:=(List.getElem?_eq_some_iff.mp hj).1;rwa [List.length_map]at this
  have su:i<=j:=by
   rcases Nat.lt_or_ge j i with g | g
   ·exfalso
    have h1:(bg r)[j]? =some p.pair:=by
     have:=congrArg (fun l:List (Nat×Nat)=>l[j]?) vt
     simp only[List.getElem?_take,if_pos g]at this
     rw[<-this];exact hj
    obtain ⟨a1,a2⟩:=List.getElem?_eq_some_iff.mp h1
    obtain ⟨b1,b2⟩:=List.getElem?_eq_some_iff.mp ML
    have:=(List.getElem_inj zU).mp (a2.trans b2.symm)
    omega
   ·exact g
  obtain ⟨cp,S_,VP⟩: ∃cp,cur[j]? =some cp/\cp.pair=p.pair:=by
   rw[List.getElem?_map]at hj
   cases e:cur[j]? with
   | none=>rw[e]at hj;cases hj
   | some cp=>rw[e]at hj;exact ⟨cp,rfl,Option.some.inj hj⟩
  refine ⟨T,_,rfl,aW.of ae,rfl,_,_,rfl,_,_,rfl,rfl,?_⟩
  have sT:=ah.upd (o:=HO.tup [.int i, .ref p.t]) nT
  have pU:=oB.same sT
  have Kx:=sT _ _ zw
  have Bs: ∀p'∈cur,cU (upd H3 T (HO.tup [.int i, .ref p.t])) p':=fun p' tD=>(EZ p' tD).same sT
  have HZ:=HY.same sT
  generalize upd H3 T (HO.tup [.int i, .ref p.t])=H4 at pU Kx Bs HZ ⊢
  clear sT nT oB zw EZ HY
  have MM:=List.mem_of_getElem? S_
  have MN:((cur.map Pr.pair).map lS)[j]? =some (lS p.pair):=by rw[List.getElem?_map,hj];rfl
  refine ⟨_,rfl, .inl ⟨rfl,_,aT.of Kx⟩,_,rfl,?_⟩
  refine ⟨l,bR cur, .ref p.t,(cur.map Pr.pair).map lS,lS p.pair,j,rfl,rfl,Kx,fE Bs, .tup (aW.of HZ.tp) (.cons (.int _) (.cons (.int _) .nil)),⟨(hU (k:=0) Bs).ly,rfl⟩,by show 1<=60;decide,⟨_,MN,by rw[zf];exact decide_eq_true rfl⟩,fun m e hm he=>?_,?_⟩
  ·rw[List.getElem?_map]at he
   cases e2:(cur.map Pr.pair)[m]? with
   | none=>rw[e2]at he;cases he
   | some u=>
    rw[e2]at he
    cases he
    rw[zf]
    exact decide_eq_false (VO m u hm e2)
  refine ⟨_,rfl,_,rfl,_,rfl,(j:Int),(i:Int),rfl,⟨by omega,by omega,by omega,by omega⟩,?_⟩
  have VQ:((j:Int) - (i:Int)).toNat=j - i:=by omega
  rw[VQ]
  refine sy (fun t σ H'=> ∃(es:List Dd) (bv:Option V),σ=[some (.str (S [b])),some (.ref o.o),some (.ref r.o),some (.ref D),some (.ref l),some (.int i),some (.ref p.t),some (.int j),bv]/\fG H H' D es/\H' l=some (.lst (bR cur))/\(∀p∈cur,cU H' p)/\es.map Dd.e=ks.map (fun k=> .swap b k)++(gr j t).map (fun k=> .swap b k))
   ⟨ds,bv,rfl,pU,Kx,Bs,by rw[m6];simp[gr]⟩ ?_ ?_
  ·rintro t σ H5 ht ⟨es,VR,rfl,rK,CN,E1,xx⟩
   have FN:ks.length=ds.length:=by have:=congrArg List.length m6;rw[List.length_map,List.length_map]at this;exact this.symm
   have wI:es.length<=10100:=by
    have:=congrArg List.length xx
    rw[List.length_map,List.length_append,List.length_map,List.length_map,oq,FN]at this
    omega
   have ev:(j:Int) - (t:Int) - 1=((j - 1 - t:Nat):Int):=by omega
   refine ⟨_,rfl, .inl ⟨rfl,_,aT.of rK.ls⟩,_,rfl,_,rfl,_,_,rfl,rfl,by show 3<=sizeLine;decide,fun d1 n1=>?_⟩
   have e1:=ah.upd (o:=HO.tup [V.str (S [115,119,97,112]),V.str (S [b]),V.int ((j:Int) - (t:Int) - 1)]) n1
   refine ⟨D,_,_,rfl,rfl,e1 _ _ rK.ls,by rw[bZ];omega,?_⟩
   rw[show dQ es++[V.ref d1]=dQ (es++[⟨d1, .swap b (j - 1 - t)⟩]) from eZ es ⟨d1, .swap b (j - 1 - t)⟩]
   have Bm:=rK.push (e:= .swap b (j - 1 - t)) nD e1 (by show upd H5 d1 _ d1=_;rw[ae,ev];rfl)
   have tU:=aF.fR (o:=HO.lst (dQ (es++[⟨d1, .swap b (j - 1 - t)⟩]))) (e1 _ _ rK.ls)
   refine ⟨_,_,rfl,Bm,by rw[aq S9];exact e1 _ _ CN,fun p' tD=>((E1 p' tD).same e1).ts tU,?_⟩
   rw[List.map_append,xx,tK,List.map_append,List.append_assoc]
   rfl
  ·rintro σ H5 ⟨es,VR,rfl,rK,CN,E1,xx⟩
   have VS:(bR cur)[j]? =some (V.ref cp.t):=by unfold bR;rw[List.getElem?_map,S_];rfl
   refine ⟨_,rfl, .inl ⟨rfl,_,aT.of CN⟩,_,rfl,_,rfl, .inl ⟨rfl,_,aT.of CN⟩,_,rfl,?_⟩
   refine ⟨l,_,_,j,V.ref cp.t,rfl,rfl,CN,by omega,by omega,by rw[aZ,seqIndex_of (by omega) (by omega),Int.toNat_natCast],VS,?_⟩
   have hle:((bR cur).eraseIdx j).length=cur.length - 1:=by rw[List.length_eraseIdx,aZ,if_pos xt]
   refine ⟨l,_,i,V.ref cp.t,rfl,rfl,ae,by rw[hle];omega,by rw[hle];omega,?_⟩
   rw[tY,rk]
   have tU:=aF.fR (o:=HO.lst (bR (eB cur i j cp))) CN
   obtain ⟨b1,b2⟩:=HL su hj
   have Ta:(eB cur i j cp).map Pr.pair=(cur.map Pr.pair).take i++p.pair::((cur.map Pr.pair).drop i).take (j - i)++(cur.map Pr.pair).drop (j+1):=by rw[pL,VP];exact b2
   have FE:(cur.map Pr.pair).length=cur.length:=List.length_map _
   have Mn:((cur.map Pr.pair).take i).length=i:=by rw[List.length_take];omega
   refine ⟨eB cur i j cp,es,ks++gr j (j - i),_,_,_,_,rfl,⟨by rw[aq S9.symm];exact rK.ls,fun x hx=>(rK.de x hx).ts tU,fun x u ex=>by rw[aq (ak ex VN)];exact rK.sm _ _ ex⟩,ae,fun p' tD=>(E1 p' (rl MM tD)).ts tU,by rw[xx,List.map_append],?_,?_,?_⟩
   ·have sd:=SP.down ((cur.map Pr.pair).take i) p.pair (j - i) (((cur.map Pr.pair).drop i).take (j - i)) ((cur.map Pr.pair).drop (j+1)) (by rw[List.length_take,List.length_drop];omega)
    rw[Mn,show i+(j - i)=j by omega, <-b1, <-Ta]at sd
    exact rE.app sd
   ·rw[Ta,List.append_assoc,List.take_append,Mn,List.take_of_length_le (by omega),show i+1 - i=1 by omega,vt,List.take_succ (i:=i) (l:=bg r),ML]
    rfl
   ·have:=congrArg List.length xx
    have h2:=congrArg List.length m6
    rw[List.length_map,List.length_map]at h2
    rw[List.length_map,List.length_append,List.length_map,List.length_map,oq]at this
    omega
 ·rintro σ H3 ⟨cur,ds,ks,nv,sv,pv,bv,rfl,oB,zw,EZ,m6,rE,vt,z0⟩
  rw[aZ]at vt z0
  have xB:(cur.map Pr.pair).Perm (bg r):=rE.perm.trans hV
  have nL:(bg r).length=r.ps.length:=by unfold bg;rw[List.length_map]
  have mh:=xB.length_eq
  rw[List.take_of_length_le (by omega),List.take_of_length_le (by omega)]at vt
  refine ⟨_,rfl,q D ds H3 nD oB.ls oB.de ⟨ks,m6,by rw[<-vt];exact rE⟩ (by omega) oB.sm⟩
theorem j8:bQ P w K mg base fk 1 Co J_ ["one","other"] (fF K):=by
 refine T.Ez.fn.ok dG (fun vs H Q E h=>jy h) (fun cS A outer s H vs Q E hr h=>?_)
 refine ⟨_,(af (au (i:=2) dG.nd rfl (Or.inl rfl) ag)
   (af (eF PassesOwn.never (aE x_ (aA eh (bT jc (pv 0) (ck (pv 2)) cC) (bT jc (pv 0) cC (ck (pv 2)))) (pv 1) (aP _)) (ai (kO (i:=2) dG.nd rfl (Or.inl rfl) ag rL)))
   (ai (aH (pv 2))))),?_⟩
 obtain ⟨a,b,rfl,hz,⟨t0,h0,e0⟩,q⟩:=h
 have hs:(100000:Nat)<sizeLine:=by decide
 (repeat (first | refine ⟨_,rfl,?_⟩ | refine ⟨_,_,rfl,rfl,?_⟩ | refine ⟨_,_,_,rfl,rfl,by first | assumption | omega,by assumption,?_⟩ | refine ⟨rfl,?_⟩ | refine And.intro (by first | decide | omega | assumption | exact Nat.le_of_ble_eq_true rfl | exact .inl ⟨by decide,by decide⟩ | exact .inr ⟨by decide,by decide⟩ | exact ⟨by decide,by decide⟩ | exact ⟨by omega,by omega⟩) ?_))
 refine ⟨fun m σ H'=> ∃t:Nat,σ=[some (.str (S a)),some (.str (S b)),some (.int t)]/\m=t0 - t/\t<=t0/\H'=H,⟨_,0,rfl,rfl,Nat.zero_le _,rfl⟩,?_⟩
 rintro m σ H2 ⟨t,rfl,rfl,ht,rfl⟩
 have hl:(dJ a t).length=a.length:=jq a t
 have Tb:a.length<=sizeLine:=by omega
 refine ⟨_,rfl,_,rfl,_,rfl,a,rfl,Tb,_,rfl,_,rfl,_,rfl,a,rfl,Tb,_,_,rfl,rfl,by rw[cA,jU];unfold dJ at hl;rw[<-List.length_append,hl];omega,?_⟩
 rw[cA,jU]
 refine ⟨_,rfl,dJ a t,b,rfl,rfl,_,rfl,cO (fun z=>?_) (fun z=>?_)⟩
 ·have z1:dJ a t≠b:=by simpa using z
  have zZ:t≠t0:=fun g=>z1 (by rw[g];exact e0)
  refine ⟨_,rfl,_,_,rfl,rfl,_,?_,t+1,by rw[show ((t+1:Nat):Int)=(t:Int)+1 by omega];rfl,rfl,by omega,rfl⟩
  omega
 ·have z1:dJ a t=b:=by
   by_cases g:dJ a t=b
   ·exact g
   ·exact absurd (by simpa using g) z
  exact ⟨_,rfl,q t (by omega) z1⟩
theorem pQ:bQ P w K mg base fk 5 Cp Ka ["cord","one","other"] (jz K):=by
 have kD:=j8 (P:=P) (w:=w) (base:=base) T
 have cB:=fh (P:=P) (w:=w) (base:=base) T
 have tR:=rz (P:=P) (w:=w) (base:=base) T
 have zy:=w6 (P:=P) (w:=w) (base:=base) T
 refine T.EA.fn.ok jA (fun vs H Q E h=>mX h) (fun cS A outer s H vs Q E hr h=>?_)
 refine ⟨_,(af (bH (aE eQ (pv 1) (pv 2) (aP _)) (ai (aH (bp ab))) a_)
   (af (au (i:=3) jA.nd rfl (Or.inl rfl) (ao kD (hr.mono (by decide)) rfl T.Ez.mg T.Ez.fn.kp T.Ez.bd .nil aC (aa (ao cB (hr.mono (by decide)) rfl T.pN.mg T.pN.fn.kp T.pN.bd .nil aC (aa (pv 1) ab)) (aa (ao cB (hr.mono (by decide)) rfl T.pN.mg T.pN.fn.kp T.pN.bd .nil aC (aa (pv 2) ab)) ab))))
   (ai (aH (aA iF (aA iF (ao tR (hr.mono (by decide)) rfl T.Ex.mg T.Ex.fn.kp T.Ex.bd .nil aC (aa (pv 0) (aa (pv 1) ab))) (aA DD (bp (aa (bI (aa (dZ [116,117,114,110] (by decide+kernel)) (aa (pv 0) ab))) ab)) (pv 3))) (ao zy (hr.mono (by decide)) rfl T.Ey.mg T.Ey.fn.kp T.Ey.bd .nil aC (aa (pv 0) (aa (pv 2) ab)))))))),?_⟩
 obtain ⟨y,c,w,v,rfl,hy,tP,rq,H_,Ky,u_,q⟩:=h
 have hs:(100000:Nat)<sizeLine:=by decide
 have hw: ∀c∈w,Lt c:=fun c hc=>hy.lt c (tP c hc)
 have hv: ∀c∈v,Lt c:=fun c hc=>hy.lt c (H_ c hc)
 refine ⟨_,rfl,_,rfl,w,v,rfl,rfl,_,rfl,cO (fun z=>?_) (fun z=>?_)⟩
 ·have e:w=v:=of_decide_eq_true z
  subst e
  refine ⟨Nat.zero_le _,fun t nt=>?_⟩
  exact q t [] _ nt ae (fun _ h=>absurd h List.not_mem_nil) .nil (Nat.zero_le _) (ah.upd nt)
 ·refine ⟨_,rfl,w,rfl,hw,by omega,fun H1 s1=>?_⟩
  refine ⟨_,rfl,v,rfl,hv,by omega,fun H2 s2=>?_⟩
  have mh:(core (red w)).length<=12:=Nat.le_trans (gT _) (Nat.le_trans (fU w) rq)
  refine ⟨core (red w),core (red v),rfl,by omega,tH u_,fun t ht et=>?_⟩
  refine ⟨_,rfl,_,rfl,y,c,w,rfl,hw,rq,fun a ds H3 na ha u7 EU z0 s3=>?_⟩
  refine ⟨_,rfl,by show 2<=sizeLine;decide,fun d1 n1=>?_⟩
  have e1:=ah.upd (o:=HO.tup [V.str (S [116,117,114,110]),V.int c]) n1
  refine ⟨by show 1<=sizeLine;decide,fun l1 VT=>?_⟩
  have e2:=ah.upd (o:=HO.lst [V.ref d1]) VT
  refine ⟨_,rfl,l1,(t:Int),[V.ref d1],rfl,rfl,ae,by omega,by omega,by simp;omega,fun l2 VU=>?_⟩
  rw[Int.toNat_natCast,rj d1 c t]
  have e3:=ah.upd (o:=HO.lst (dQ (List.replicate t ⟨d1, .turn c⟩))) VU
  have E2:=(e1.trans e2).trans e3
  refine ⟨a,l2,_,_,rfl,rfl,E2 _ _ ha,ae,by rw[bZ,bZ,List.length_replicate];omega,fun l3 VV=>?_⟩
  rw[kI]
  have e4:=ah.upd (o:=HO.lst (dQ (ds++List.replicate t ⟨d1, .turn c⟩))) VV
  have zA:=E2.trans e4
  have zw:upd (upd (upd (upd H3 d1 (HO.tup [V.str (S [116,117,114,110]),V.int c])) l1 (HO.lst [V.ref d1])) l2 (HO.lst (dQ (List.replicate t ⟨d1, .turn c⟩)))) l3 (HO.lst (dQ (ds++List.replicate t ⟨d1, .turn c⟩))) l3=some (HO.lst (dQ (ds++List.replicate t ⟨d1, .turn c⟩))):=ae
  have Tc:upd (upd (upd (upd H3 d1 (HO.tup [V.str (S [116,117,114,110]),V.int c])) l1 (HO.lst [V.ref d1])) l2 (HO.lst (dQ (List.replicate t ⟨d1, .turn c⟩)))) l3 (HO.lst (dQ (ds++List.replicate t ⟨d1, .turn c⟩))) d1=some (HO.tup [V.str (S [116,117,114,110]),V.int c]):=((e2.trans e3).trans e4) _ _ ae
  generalize upd (upd (upd (upd H3 d1 (HO.tup [V.str (S [116,117,114,110]),V.int c])) l1 (HO.lst [V.ref d1])) l2 (HO.lst (dQ (List.replicate t ⟨d1, .turn c⟩)))) l3 (HO.lst (dQ (ds++List.replicate t ⟨d1, .turn c⟩)))=H4 at zA zw Tc ⊢
  clear e1 e2 e3 e4 E2
  have E3:=((s1.trans s2).trans s3).trans zA
  refine ⟨_,rfl,_,rfl,y,c,v,rfl,hy,H_,Ky,fun b es H5 nb hb Ia Mw wI s5=>?_⟩
  refine ⟨l3,b,_,_,rfl,rfl,s5 _ _ zw,hb,by rw[bZ,bZ,List.length_append,List.length_replicate];omega,fun r nr=>?_⟩
  rw[kI]
  have e6:=ah.upd (o:=HO.lst (dQ (ds++List.replicate t ⟨d1, .turn c⟩++es))) nr
  refine q r (ds++List.replicate t ⟨d1, .turn c⟩++es) _ (ah.free (E3.trans s5) nr) ae (fun x hx=>?_) ?_ (by rw[List.length_append,List.length_append,List.length_replicate];omega) ((E3.trans s5).trans e6)
  ·rcases List.mem_append.mp hx with g | g
   ·rcases List.mem_append.mp g with g | g
    ·exact (u7 x g).ts (aF.of ((zA.trans s5).trans e6))
    ·rw[(List.mem_replicate.mp g).2]
     exact (s5.trans e6) _ _ Tc
   ·exact (Ia x g).ts (aF.of e6)
  ·show WP y c w ((ds++List.replicate t (⟨d1, .turn c⟩:Dd)++es).map Dd.e) v
   rw[List.map_append,List.map_append,List.map_replicate]
   refine (EU.app ?_).app Mw
   rw[<-et]
   exact WP.turns t ht
theorem m8:bQ P w K mg base fk 6 Cr Kc ["one","other"] (iB K):=by
 have xc:=tO (P:=P) (w:=w) (base:=base) T
 refine T.EC.fn.ok mY (fun vs H Q E h=>mq h) (fun cS A outer s H vs Q E hr h=>?_)
 refine ⟨_,(ai (aH (C9 (i4 oX (ar (ax K rfl) rfl T.z_len PySem.boot_len (aa (pv 0) ab)) (ar (ax K rfl) rfl T.z_len PySem.boot_len (aa (pv 1) ab)) (aP _)) (C8 (ar (vI K rfl rfl) rfl T.z_all boot_all (aa (di ["pair"] [none] (wm K rfl rfl T.z_zip (aa (pv 0) (aa (pv 1) ab))) trivial (fun _ _ _ _=>(aw (i:=0) (by decide+kernel:List.Nodup (["pair"]:List Str)) rfl (Or.inl rfl))) (fun _ _ _ _=>jM) (fun _ _ _ _=>(ao xc (hr.mono (by decide)) rfl T.Ew.mg T.Ew.fn.kp T.Ew.bd .nil aC (aa (aB (aG K rfl) (pv 0) ag (fun _ _=>rfl)) (aa (aB (aG K rfl) (pv 0) ag (fun _ _=>rfl)) ab))))) ab)))))),?_⟩
 obtain ⟨t,u,ws,vs',rfl,ht,hu,Kv,VW,hw,hv,q⟩:=h
 have hs:(100000:Nat)<sizeLine:=by decide
 refine ⟨_,rfl,t,_,rfl, .inr (aW.of ht),_,rfl,u,_,rfl, .inr (aW.of hu),_,_,rfl,rfl,?_⟩
 refine ⟨_,rfl,cO (fun z=>?_) (fun z=>?_)⟩
 rotate_left
 ·have jG:ws.map az≠vs'.map az:=fun g=>by
   have hl:=congrArg List.length g
   rw[List.length_map,List.length_map]at hl
   rw[aS,aS,hl]at z
   exact z (decide_eq_true rfl)
  have:=q H (ah.refl H)
  rw[decide_eq_false jG]at this
  exact this
 have hl:ws.length=vs'.length:=by
  have:=of_decide_eq_true z
  rw[aS,aS]at this
  omega
 refine ⟨_,rfl,_,rfl,t,u,rfl,⟨_,aW.of ht⟩,⟨_,aW.of hu⟩,?_⟩
 refine yo (Sq1:=vV K t) (Sq2:=vV K u) (xs:=bX ws) (ys:=bX vs') (fun i acc H'=>acc=((ws.zip vs').take i).map (fun p=>V.bl (decide (az p.1=az p.2)))/\ah H H') (by rw[aS,aS];exact hl) (by rw[aS];omega) (fun i acc H' ⟨_,s⟩=>⟨aW.of (s _ _ ht),aW.of (s _ _ hu)⟩) ⟨rfl,ah.refl H⟩ ?_ ?_
 ·rintro i x y acc H' T Nx hx hy YZ ⟨rfl,s1⟩ nT hN
  have hi:i<ws.length:=by
   have:=(List.getElem?_eq_some_iff.mp hx).1
   rwa [aS]at this
  have v8:i<vs'.length:=by omega
  rw[iL hi]at hx
  rw[iL v8]at hy
  cases hx
  cases hy
  have sT:=ah.upd (o:=HO.tup [.str (S ws[i]), .str (S vs'[i])]) nT
  refine ⟨trivial,?_⟩
  simp only[DK,if_true]
  obtain ⟨w1,w2⟩:=hw _ (List.getElem_mem hi)
  obtain ⟨v1,v2⟩:=hv _ (List.getElem_mem v8)
  refine ⟨_,rfl,_,_,0,_,rfl,rfl,aW.of ae,rfl,_,rfl,_,_,1,_,rfl,rfl,aW.of ae,rfl,?_⟩
  refine ⟨ws[i],vs'[i],rfl,w1,by omega,v1,by omega,fun H2 s2=>?_⟩
  refine hN _ _ (by rw[List.length_append,List.length_map,List.length_take];simp only[List.length_cons,List.length_nil];omega) ⟨?_,s1.trans (sT.trans s2)⟩
  have hz:(ws.zip vs')[i]? =some (ws[i],vs'[i]):=by rw[List.getElem?_zip_eq_some];exact ⟨List.getElem?_eq_getElem hi,List.getElem?_eq_getElem v8⟩
  rw[List.take_add_one,hz,List.map_append]
  rfl
 ·rintro acc H' D gA ⟨rfl,s1⟩ nD
  have e1:(ws.zip vs').take (bX ws).length=ws.zip vs':=List.take_of_length_le (by rw[aS,List.length_zip];omega)
  rw[e1]
  refine ⟨D,(ws.zip vs').map (fun p=>decide (az p.1=az p.2)),rfl,?_,?_⟩
  ·rw[List.map_map]
   exact aT.of ae
  ·have e2:((ws.zip vs').map (fun p=>decide (az p.1=az p.2))).all id=decide (ws.map az=vs'.map az):=rf hl
   rw[e2]
   exact q _ (s1.trans (ah.upd nD))
theorem g6:bQ P w K mg base fk 1 f3 d3 ["orders","cord","places"] (kh K):=by
 refine T.F3.fn.ok ff (fun vs H Q E h=>pF h) (fun cS A outer s H vs Q E hr h=>?_)
 refine ⟨_,(ai (bw PassesOwn.never rfl (fv K rfl (bj (sr rfl) rfl T.z_list boot_list (aa (pv 0) ab))) (aw (i:=3) ff.nd rfl (Or.inl rfl)) (af (au (i:=4) ff.nd rfl (Or.inl rfl) (bp ab))
   (af (bw PassesOwn.never rfl (fv K rfl (fS (ip hr) (pv 0) (pv 3) (fun _ _=>rfl))) (aw (i:=5) ff.nd rfl (Or.inl rfl)) (ai (bH (aE ya (aB (aG K rfl) (pv 5) ag (fun _ _=>rfl)) (pv 1) (aP _)) (ai (ba (bf K rfl PySem.F.plainAttrs_list PySem.F.slot_list_append PySem.F.type_list_append bt (pv 4) (aa (pv 5) ab)))) (ai (bH (aE ue (aB (aV K rfl) (pv 2) (aB (aG K rfl) (pv 5) ag (fun _ _=>rfl)) (fun _ _=>rfl)) jI (aP _)) (ai (ba (bf K rfl PySem.F.plainAttrs_list PySem.F.slot_list_append PySem.F.type_list_append bt (pv 4) (aa (bI (aa (pv 1) (aa (aB (aV K rfl) (pv 2) (aB (aG K rfl) (pv 5) ag (fun _ _=>rfl)) (fun _ _=>rfl)) ab))) ab)))) a_)))))
   (ai (uD (ip hr) (pv 0) (pv 3) (pv 4) rfl)))))),?_⟩
 obtain ⟨d,c,pp,bs,os,xs,f,rfl,hO,nd,Cb,hc,VX,hx,hf,q⟩:=h
 have hs:(100000:Nat)<sizeLine:=by decide
 have MO:=hO.ln
 refine ⟨_,rfl,d,_,rfl,hO.dk,by rw[lW MO];omega,fun lp nl=>?_⟩
 rw[nY MO]
 have sL:=ah.upd (o:=HO.lst (bY bs)) nl
 have MP:upd H lp (HO.lst (bY bs)) lp=some (HO.lst (bY bs)):=ae
 have xC:=hO.same sL
 have Bt:=sL _ _ VX
 have MQ:lp≠d:=Ne.symm (ak hO.dk nl)
 generalize upd H lp (HO.lst (bY bs))=H1 at sL MP xC Bt ⊢
 have MR:pp≠d:=fun z=>by rw[z,xC.dk]at Bt;cases Bt
 refine ⟨lp,rfl,⟨_,aT.of MP⟩,?_⟩
 refine gG (K:=K) (a:=lp) (xs:=bY bs) (fun i σ H'=> ∃(bv kv sv:Option V) (cur:List Od),σ=[some (.ref d),some (.int c),some (.ref pp),bv,kv,sv]/\cur.length=os.length/\bL H' d bs cur/\cur.drop i=os.drop i/\(cur.take i).map bg=(os.take i).map (fun o=>cL c f (bg o))/\(∀o∈cur.take i,H1 o.o=none)/\aI d H1 H')
  ⟨none,none,none,os,rfl,rfl,xC,rfl,rfl,by simp,aI.refl _ _⟩ (fun i σ H' _ ⟨_,_,_,_,_,_,_,_,_,_,s⟩=>aT.of (s _ _ MP MQ)) ?_ ?_
 ·rintro i x σ H2 GR ⟨bv,kv,sv,cur,rfl,mh,E4,Ib,vt,oU,s2⟩
  obtain ⟨b,hb,rfl⟩:=dH GR
  have hi:i<bs.length:=(List.getElem?_eq_some_iff.mp hb).1
  have Td:i<cur.length:=by omega
  have xD:i<os.length:=by omega
  have zB:cur[i]? =some os[i]:=by
   have e:=congrArg (fun l=>l[0]?) Ib
   simp only[List.getElem?_drop,Nat.add_zero]at e
   rw[e,List.getElem?_eq_getElem xD]
  have iR:os[i]∈os:=List.getElem_mem xD
  have E5:os[i]∈cur:=List.mem_of_getElem? zB
  generalize rC:os[i]=o at zB iR E5
  have tu:=E4.ok o E5
  have zY:=E4.ne E5
  have Ic:=s2 _ _ Bt MR
  refine ⟨by show 0<=sizeLine;decide,fun p5 n5=>?_⟩
  have s5:=ah.upd (o:=HO.lst []) n5
  have h5:upd H2 p5 (HO.lst []) p5=some (HO.lst []):=ae
  have zC:=E4.same s5
  have Bu:=tu.same s5
  have Ie:=s5 _ _ Ic
  have VY:o.o≠p5:=ak tu.tp n5
  have VZ:pp≠p5:=ak Ic n5
  generalize upd H2 p5 (HO.lst [])=H5 at s5 h5 zC Bu Ie ⊢
  refine ⟨_,rfl,_,rfl,d, .ref o.o,rfl,by rw[<-dN nd hb zB];exact gR.k (k:=kS [b]) zC.dk,o.o,rfl,⟨_,aT.of Bu.tp⟩,?_⟩
  refine gG (K:=K) (a:=o.o) (xs:=bR o.ps) (fun j σ H'=> ∃(sv:Option V) (us:List Pr),σ=[some (.ref d),some (.int c),some (.ref pp),some (.str (S [b])),some (.ref p5),sv]/\H' p5=some (.lst (bR us))/\(∀u∈us,cU H' u)/\us.map Pr.pair=cL c f ((o.ps.take j).map Pr.pair)/\us.length<=j/\aI p5 H5 H')
   ⟨sv,[],rfl,h5,by simp,rfl,Nat.zero_le _,aI.refl _ _⟩ (fun j σ H' _ ⟨_,_,_,_,_,_,_,s⟩=>aT.of (s _ _ Bu.tp VY)) ?_ ?_
  ·rintro j x σ H6 Bn ⟨sv,us,rfl,Aa,xo,zk,FI,s6⟩
   obtain ⟨p,MS,rfl⟩:=yS Bn
   have hV:=List.mem_of_getElem? MS
   have hj:j<o.ps.length:=(List.getElem?_eq_some_iff.mp MS).1
   have MG:=tu.fw
   have Bv:=Bu.pr p hV
   have MT:p.t≠p5:=fun z=>by have:=Bv.tp;rw[z,h5]at this;cases this
   have Kz:=s6 _ _ Bv.tp MT
   have es:cL c f ((o.ps.take (j+1)).map Pr.pair)=cL c f ((o.ps.take j).map Pr.pair)++(il c f p.pair).toList:=by
    rw[<-take_snoc MS,List.map_append]
    exact wN _ _ _ _
   have tU: ∀{y:List V},aF H6 (upd H6 p5 (.lst y)):=fun {y}=>aF.fR Aa
   have sU: ∀{y:List V},aI p5 H5 (upd H6 p5 (.lst y)):=fun {y} a u ea z=>by rw[aq z];exact s6 a u ea z
   refine ⟨_,rfl,p.t,_,0,_,rfl,rfl,aW.of Kz,rfl,_,rfl,_,_,rfl,rfl,_,rfl,cO (fun z=>?_) (fun z=>?_)⟩
   ·have z': ¬p.c=c:=fun e=>by
     have z2:(!decide ((p.c:Int)=(c:Int)))=true:=z
     rw[decide_eq_true (by omega)]at z2;cases z2
    have er:il c f p.pair=some p.pair:=if_neg z'
    refine ⟨_,rfl, .inl ⟨rfl,_,aT.of Aa⟩,_,rfl,p5,_,_,rfl,rfl,Aa,by rw[aZ];omega,?_⟩
    refine ⟨_,us++[p],rfl,by rw[ae,gU],fun u hu=>?_,by rw[List.map_append,zk,es,er];rfl,by rw[List.length_append,List.length_singleton];omega,sU⟩
    rcases List.mem_append.mp hu with g | g
    ·exact (xo u g).ts tU
    ·rw[List.mem_singleton.mp g];exact (⟨Kz,Bv.cz,Bv.iz⟩:cU H6 p).ts tU
   ·have z':p.c=c:=by
     have z2: ¬(!decide ((p.c:Int)=(c:Int)))=true:=z
     by_cases e:p.c=c
     ·exact e
     ·rw[decide_eq_false (by omega)]at z2;exact absurd rfl z2
    have MU:=hx o iR p hV z'
    have Ig:=s6 _ _ Ie VZ
    have er:il c f p.pair=(f p.i).map fun j=>(c,j):=if_pos z'
    refine ⟨_,rfl,_,rfl,p.t,_,1,_,rfl,rfl,aW.of Kz,rfl,pp,_,_,_,rfl,rfl,aT.of Ig,aM MU,rfl,_,rfl,?_⟩
    cases KA:f p.i with
    | none=>
     refine dq (by rfl) ?_
     refine ⟨_,us,rfl,Aa,xo,by rw[es,er,KA,zk];simp,by omega,s6⟩
    | some k=>
     rw[KA]at MU
     have hk:=hf o iR p hV z' k KA
     refine fT (by rfl) ?_
     refine ⟨_,rfl, .inl ⟨rfl,_,aT.of Aa⟩,_,rfl,_,rfl,_,rfl,p.t,_,1,_,rfl,rfl,aW.of Kz,rfl,pp,_,_,_,rfl,rfl,aT.of Ig,aM MU,by show 2<=sizeLine;decide,fun t nt=>?_⟩
     have st:=ah.upd (o:=HO.tup [V.int c,V.int (k:Nat)]) nt
     have CO:=st _ _ Aa
     refine ⟨p5,_,_,rfl,rfl,CO,by rw[aZ];omega,?_⟩
     have Te:=aF.fR (o:=HO.lst (bR us++[V.ref t])) CO
     refine ⟨_,us++[⟨t,c,k⟩],rfl,by rw[ae];exact congrArg (fun x=>some (HO.lst x)) (gU us ⟨t,c,k⟩),fun u hu=>?_,by rw[List.map_append,zk,es,er,KA];rfl,by rw[List.length_append,List.length_singleton];omega,fun a u ea z=>by rw[aq z];exact st _ _ (s6 a u ea z)⟩
     rcases List.mem_append.mp hu with g | g
     ·exact (xo u g).ts ((aF.of st).trans Te)
     ·rw[List.mem_singleton.mp g];exact ⟨Te _ _ ae,hc,hk⟩
  ·rintro σ H6 ⟨sv,us,rfl,Aa,xo,zk,FI,s6⟩
   rw[aZ,List.take_length]at zk
   rw[aZ]at FI
   have MG:=tu.fw
   have zm:p5≠d:=Ne.symm (ak E4.dk n5)
   have V0:aF H5 H6:=fun a ys e=>s6 a _ e fun z=>by rw[z,h5]at e;cases e
   have jG: ∀o'∈cur,o'.o≠p5:=fun o' iC=>ak (E4.ok o' iC).tp n5
   have Ab:bL H6 d bs cur:=⟨s6 _ _ zC.dk (Ne.symm zm),zC.ln,zC.nd,fun o' iC=>(zC.ok o' iC).Hs s6 (jG o' iC) V0⟩
   have new:=Ab.put nd hb (o':=⟨p5,us⟩) ⟨Aa,xo,by show us.length<=100;omega⟩ zm jG
   refine ⟨_,rfl,_,rfl,_,rfl,d,_,rfl,vO.k (k:=kS [b]) Ab.dk (by rw[lW Ab.ln];omega),?_⟩
   have EW:os[i]? =some o:=by rw[List.getElem?_eq_getElem xD,rC]
   refine ⟨_,_,_,cur.set i ⟨p5,us⟩,rfl,by rw[List.length_set];exact mh,new,?_,?_,fun o' iC=>?_,fun a u ea z=>?_⟩
   ·rw[set_drop]
    have:=congrArg (List.drop 1) Ib
    rw[List.drop_drop,List.drop_drop]at this
    exact this
   ·rw[qU _ _ _ Td,List.map_append,vt, <-take_snoc EW,List.map_append]
    show _++[us.map Pr.pair]=_++[cL c f (bg o)]
    rw[zk]
    rfl
   ·rw[qU _ _ _ Td]at iC
    rcases List.mem_append.mp iC with g | g
    ·exact oU o' g
    ·rw[List.mem_singleton.mp g];exact s2.none n5 zm
   ·rw[aq z]
    have ez:=s2 a u ea z
    exact s6 _ _ (s5 _ _ ez) (ak ez n5)
 ·rintro σ H2 ⟨bv,kv,sv,cur,rfl,mh,E4,Ib,vt,oU,s2⟩
  rw[aQ, <-MO]at vt oU
  rw[<-mh,List.take_length]at oU
  rw[List.take_length, <-mh,List.take_length]at vt
  exact q cur H2 E4 vt (fun o ho=>ah.free sL (oU o ho)) (fun a u ea z=>s2 a u (sL a u ea) z)
theorem xf:bQ P w K mg base fk 2 f5 d5 ["words","orders","cord","place"] (n0 K):=by
 have bM:=df (P:=P) (w:=w) (base:=base) T
 have e_:=g6 (P:=P) (w:=w) (base:=base) T
 refine T.F5.fn.ok oA (fun vs H Q E h=>tm h) (fun cS A outer s H vs Q E hr h=>?_)
 refine ⟨_,(af (au (i:=4) oA.nd rfl (Or.inl rfl) (aB (aV K rfl) (pv 0) (pv 2) (fun _ _=>rfl)))
   (af (bH (PW.pt (p7 (iD (gI kT kR ag (pv 3) (aA cK (ar aX rfl T.z_len PySem.boot_len (aa (pv 4) ab)) ag))) (kM (aE x_ (aB jO (pv 4) (aA br (pv 3) ag) (fun _ _=>rfl)) (ao bM (hr.mono (by decide)) rfl T.F0.mg T.F0.fn.kp T.F0.bd .nil aC (aa (aB jO (pv 4) (pv 3) (fun _ _=>rfl)) ab)) (aP _))))) (ai (aH fc)) a_)
   (af (gE (aA eh (bT jc (pv 4) cC (ck (pv 3))) (bT jc (pv 4) (ck (aA br (pv 3) ag)) cC)) (iE (pv 0) (pv 2) set_list))
   (af (ba (ao e_ (hr.mono (by decide)) rfl T.F3.mg T.F3.fn.kp T.F3.bd .nil aC (aa (pv 1) (aa (pv 2) (aa (aA iF (aA iF (gS rfl rfl T.z_list rfl T.z_range (aa (pv 3) ab)) (bp (aa jI (aa jI ab)))) (ka rfl rfl T.z_list rfl T.z_range (aa (pv 3) (aa (aA cK (ar aX rfl T.z_len PySem.boot_len (aa (pv 4) ab)) ag) ab)))) ab)))))
   (ai (aH fc)))))),?_⟩
 obtain ⟨d,wl,bs,os,ws,c,k,w,x,rfl,hH,hw,Tf,JY,q⟩:=h
 have hs:(100000:Nat)<sizeLine:=by decide
 have Ih:(bX ws)[c]? =some (.str (S w)):=by unfold bX;rw[List.getElem?_map,hw];rfl
 obtain ⟨MV,rq⟩:=hH.wo w (List.mem_of_getElem? hw)
 have Ac:c<ws.length:=(List.getElem?_eq_some_iff.mp hw).1
 have MW:=hH.wz
 have FN:k+1<w.length:=(List.getElem?_eq_some_iff.mp JY).1
 have Eo:=MV x (List.mem_of_getElem? Tf)
 have ek:(k:Int)+1=((k+1:Nat):Int):=by omega
 have Tg:(k:Int)+2=((k+2:Nat):Int):=by omega
 refine ⟨_,rfl,_,rfl,wl,_,_,_,rfl,rfl,aT.of hH.wd,aM Ih,?_⟩
 refine ⟨_,rfl,_,_,rfl,rfl,_,rfl,fT (decide_eq_true (by omega)) ⟨_,rfl,w,rfl,by omega,_,_,rfl,rfl,_,_,rfl,rfl,_,rfl,dq (by rw[decide_eq_true (by omega)];rfl) ?_⟩⟩
 refine ⟨_,rfl,_,rfl,_,_,rfl,rfl,w,_,aU x,rfl,rfl,by omega,by rw[ek];exact aM JY,?_⟩
 refine ⟨_,rfl,_,rfl,w,_,x,rfl,rfl,by omega,aM Tf,x,rfl,Eo.lt,_,_,rfl,rfl,_,rfl,dq (by rw[decide_eq_true rfl];rfl) ?_⟩
 refine ⟨_,rfl,_,rfl,_,rfl,w,rfl,by omega,?_⟩
 refine ⟨_,rfl,_,rfl,_,_,rfl,rfl,_,rfl,w,rfl,by omega,_,_,rfl,rfl,by rw[Tg,ju,cA];simp;omega,_,rfl,_,rfl,wl,_,_,c,rfl,rfl,hH.wd,by rw[aS];exact js Ac,?_⟩
 rw[Tg,ju,cA,pG]
 have xC:bL (upd H wl (.lst (bX (ws.set c (w.take k++w.drop (k+2)))))) d bs os:=hH.od.Em hH.ne hH.wd
 have fin: ∀H3,ah (upd H wl (.lst (bX (ws.set c (w.take k++w.drop (k+2)))))) H3->_:=fun H3 s3=>qZ hH q s3
 generalize upd H wl (.lst (bX (ws.set c (w.take k++w.drop (k+2)))))=H1 at xC fin ⊢
 refine ⟨_,rfl,_,rfl,_,rfl,_,rfl,by omega,by omega,fun p1 n1=>?_⟩
 have s1:=ah.upd (o:=HO.lst ((List.range ((k:Int)).toNat).map fun (j:Nat)=>V.int (0+(j:Int)))) n1
 have h1:upd H1 p1 (HO.lst ((List.range ((k:Int)).toNat).map fun (j:Nat)=>V.int (0+(j:Int)))) p1=_:=ae
 generalize upd H1 p1 (HO.lst ((List.range ((k:Int)).toNat).map fun (j:Nat)=>V.int (0+(j:Int))))=H2 at s1 h1 ⊢
 refine ⟨by show 2<=sizeLine;decide,fun p2 n2=>?_⟩
 have s2:=ah.upd (o:=HO.lst [V.bW,V.bW]) n2
 refine ⟨p1,p2,_,_,rfl,rfl,s2 _ _ h1,ae,by simp;omega,fun p3 n3=>?_⟩
 have s3:=ah.upd (o:=HO.lst (((List.range ((k:Int)).toNat).map fun (j:Nat)=>V.int (0+(j:Int)))++[V.bW,V.bW])) n3
 have va:=(s1.trans s2).trans s3
 have h3:upd (upd H2 p2 (HO.lst [V.bW,V.bW])) p3 (HO.lst (((List.range ((k:Int)).toNat).map fun (j:Nat)=>V.int (0+(j:Int)))++[V.bW,V.bW])) p3=_:=ae
 generalize upd (upd H2 p2 (HO.lst [V.bW,V.bW])) p3 (HO.lst (((List.range ((k:Int)).toNat).map fun (j:Nat)=>V.int (0+(j:Int)))++[V.bW,V.bW]))=H3 at va h3 ⊢
 refine ⟨_,rfl,_,rfl,w,rfl,by omega,_,_,rfl,rfl,_,_,rfl,by omega,by omega,fun p4 n4=>?_⟩
 have s4:=ah.upd (o:=HO.lst ((List.range ((w.length:Int) - 2 - (k:Int)).toNat).map fun (j:Nat)=>V.int ((k:Int)+(j:Int)))) n4
 refine ⟨p3,p4,_,_,rfl,rfl,s4 _ _ h3,ae,by simp;omega,fun p5 n5=>?_⟩
 have s5:=ah.upd (o:=HO.lst (((List.range ((k:Int)).toNat).map fun (j:Nat)=>V.int (0+(j:Int)))++[V.bW,V.bW]++(List.range ((w.length:Int) - 2 - (k:Int)).toNat).map fun (j:Nat)=>V.int ((k:Int)+(j:Int)))) n5
 have AV:=(va.trans s4).trans s5
 refine ⟨d,c,p5,bs,os,_,outF k,rfl,xC.same AV,hH.nd,hH.bl,by omega,ae,hH.pl hw fun i hi=>En FN hi,hH.pb hw fun i j hi e=>?_,fin _ AV⟩
 unfold outF at e
 split at e
 ·cases e;omega
 ·split at e
  ·cases e
  ·cases e;omega
theorem tS:bQ P w K mg base fk 2 f7 d7 ["words","orders","cord"] (lY K):=by
 have e_:=g6 (P:=P) (w:=w) (base:=base) T
 refine T.F7.fn.ok mx (fun vs H Q E h=>qW h) (fun cS A outer s H vs Q E hr h=>?_)
 refine ⟨_,(af (au (i:=3) mx.nd rfl (Or.inl rfl) (aB (aV K rfl) (pv 0) (pv 2) (fun _ _=>rfl)))
   (af (gE (aA eh (bT jc (pv 3) (ck ag) cC) (bT jc (pv 3) cC (ck ag))) (iE (pv 0) (pv 2) set_list))
   (af (ba (ao e_ (hr.mono (by decide)) rfl T.F3.mg T.F3.fn.kp T.F3.bd .nil aC (aa (pv 1) (aa (pv 2) (aa (aA iF (bp (aa (aA cK (ar aX rfl T.z_len PySem.boot_len (aa (pv 3) ab)) ag) ab)) (gS rfl rfl T.z_list rfl T.z_range (aa (aA cK (ar aX rfl T.z_len PySem.boot_len (aa (pv 3) ab)) ag) ab))) ab)))))
   (ai (aH fc))))),?_⟩
 obtain ⟨d,wl,bs,os,ws,c,w,rfl,hH,hw,q⟩:=h
 have hs:(100000:Nat)<sizeLine:=by decide
 have Ih:(bX ws)[c]? =some (.str (S w)):=by unfold bX;rw[List.getElem?_map,hw];rfl
 refine ⟨_,rfl,_,rfl,wl,_,_,_,rfl,rfl,aT.of hH.wd,aM Ih,?_⟩
 obtain ⟨MV,rq⟩:=hH.wo w (List.mem_of_getElem? hw)
 have Ac:c<ws.length:=(List.getElem?_eq_some_iff.mp hw).1
 have MW:=hH.wz
 refine ⟨_,rfl,_,rfl,w,rfl,by omega,_,rfl,_,rfl,w,rfl,by omega,_,_,rfl,rfl,by rw[uQ,qY];simp;omega,_,rfl,_,rfl,wl,_,_,c,rfl,rfl,hH.wd,by rw[aS];exact js Ac,?_⟩
 rw[uQ,qY,pG]
 have xC:bL (upd H wl (.lst (bX (ws.set c (w.drop 1++w.take 1))))) d bs os:=hH.od.Em hH.ne hH.wd
 have fin: ∀H3,ah (upd H wl (.lst (bX (ws.set c (w.drop 1++w.take 1))))) H3->_:=fun H3 s3=>qZ hH q s3
 generalize upd H wl (.lst (bX (ws.set c (w.drop 1++w.take 1))))=H1 at xC fin ⊢
 refine ⟨_,rfl,_,rfl,_,rfl,w,rfl,by omega,_,_,rfl,rfl,by show 1<=sizeLine;decide,fun p1 n1=>?_⟩
 have s1:=ah.upd (o:=HO.lst [V.int ((w.length:Int) - 1)]) n1
 have h1:upd H1 p1 (HO.lst [V.int ((w.length:Int) - 1)]) p1=some (HO.lst [V.int ((w.length:Int) - 1)]):=ae
 generalize upd H1 p1 (HO.lst [V.int ((w.length:Int) - 1)])=H2 at s1 h1 ⊢
 refine ⟨_,rfl,w,rfl,by omega,_,_,rfl,rfl,_,rfl,by omega,by omega,fun p2 n2=>?_⟩
 have s2:=ah.upd (o:=HO.lst ((List.range ((w.length:Int) - 1).toNat).map fun (k:Nat)=>V.int (0+(k:Int)))) n2
 refine ⟨p1,p2,_,_,rfl,rfl,s2 _ _ h1,ae,by simp;omega,fun p3 n3=>?_⟩
 have s3:=ah.upd (o:=HO.lst ([V.int ((w.length:Int) - 1)]++(List.range ((w.length:Int) - 1).toNat).map fun (k:Nat)=>V.int (0+(k:Int)))) n3
 have va:=(s1.trans s2).trans s3
 refine ⟨d,c,p3,bs,os,_,gn w.length,rfl,xC.same va,hH.nd,hH.bl,by omega,ae,hH.pl hw fun i hi=>Bf hi,hH.pb hw fun i j hi e=>?_,fin _ va⟩
 unfold gn at e
 split at e<;>(cases e;omega)
theorem zD:bQ P w K mg base fk 2 f6 d6 ["words","orders","cord","place","letter","number"] (q0 K):=by
 have bM:=df (P:=P) (w:=w) (base:=base) T
 have e_:=g6 (P:=P) (w:=w) (base:=base) T
 refine T.F6.fn.ok mw (fun vs H Q E h=>wO h) (fun cS A outer s H vs Q E hr h=>?_)
 refine ⟨_,(af (au (i:=6) mw.nd rfl (Or.inl rfl) (aB (aV K rfl) (pv 0) (pv 2) (fun _ _=>rfl)))
   (af (au (i:=7) mw.nd rfl (Or.inl rfl) (fS (ip hr) (pv 1) (eu K rfl PySem.F.plainAttrs_str PySem.F.slot_str_lower PySem.F.type_str_lower gK (pv 4)) (fun _ _=>rfl)))
   (af (bH (PW.pt (p7 (iD (gI kT kT ag (pv 3) (ar aX rfl T.z_len PySem.boot_len (aa (pv 6) ab)))) (kM (iD (gI kT kT ag (pv 5) (ar (ax K rfl) rfl T.z_len PySem.boot_len (aa (pv 7) ab))))))) (ai (aH fc)) a_)
   (af (gE (aA eh (aA eh (aA eh (bT jc (pv 6) cC (ck (pv 3))) (pv 4)) (ao bM (hr.mono (by decide)) rfl T.F0.mg T.F0.fn.kp T.F0.bd .nil aC (aa (pv 4) ab))) (bT jc (pv 6) (ck (pv 3)) cC)) (iE (pv 0) (pv 2) set_list))
   (af (ba (ao e_ (hr.mono (by decide)) rfl T.F3.mg T.F3.fn.kp T.F3.bd .nil aC (aa (pv 1) (aa (pv 2) (aa (aA iF (gS rfl rfl T.z_list rfl T.z_range (aa (pv 3) ab)) (ka rfl rfl T.z_list rfl T.z_range (aa (aA br (pv 3) ag) (aa (aA br (ar aX rfl T.z_len PySem.boot_len (aa (pv 6) ab)) ag) ab)))) ab)))))
   (af (ba (bf K rfl PySem.F.plainAttrs_list PySem.F.slot_list_insert PySem.F.type_list_insert jR (fS (ip hr) (pv 1) (eu K rfl PySem.F.plainAttrs_str PySem.F.slot_str_lower PySem.F.type_str_lower gK (pv 4)) (fun _ _=>rfl)) (aa (pv 5) (aa (bI (aa (pv 2) (aa (aA br (pv 3) ag) ab))) ab))))
   (af (ba (bf K rfl PySem.F.plainAttrs_list PySem.F.slot_list_insert PySem.F.type_list_insert jR (fS (ip hr) (pv 1) (eu K rfl PySem.F.plainAttrs_str PySem.F.slot_str_lower PySem.F.type_str_lower gK (pv 4)) (fun _ _=>rfl)) (aa (pv 5) (aa (bI (aa (pv 2) (aa (pv 3) ab))) ab))))
   (ai (aH fc))))))))),?_⟩
 obtain ⟨d,wl,bs,os,ws,c,k,n,j,w,x,o,rfl,hH,hw,hk,hx,hb,ho,hn,xA,q⟩:=h
 have hs:(100000:Nat)<sizeLine:=by decide
 have Ih:(bX ws)[c]? =some (.str (S w)):=by unfold bX;rw[List.getElem?_map,hw];rfl
 obtain ⟨MV,rq⟩:=hH.wo w (List.mem_of_getElem? hw)
 have Ac:c<ws.length:=(List.getElem?_eq_some_iff.mp hw).1
 have MW:=hH.wz
 have tu:=hH.od.ok o (List.mem_of_getElem? ho)
 have dg:gR H d (V.str (S [PyProof.Rows.lo1 x])) (some (.ref o.o)):=by rw[<-dN hH.nd hb ho];exact gR.k (k:=kS [PyProof.Rows.lo1 x]) hH.od.dk
 refine ⟨_,rfl,_,rfl,wl,_,_,_,rfl,rfl,aT.of hH.wd,aM Ih,?_⟩
 refine ⟨_,rfl,_,rfl,rfl,?_⟩
 refine ⟨x,rfl,rfl,hx.lt,d,_,rfl,dg,?_⟩
 refine ⟨_,rfl,_,_,rfl,rfl,_,rfl,fT (decide_eq_true (by omega)) ⟨_,rfl,w,rfl,by omega,_,_,rfl,rfl,_,rfl,dq (by rw[decide_eq_true (by omega)];rfl) ?_⟩⟩
 refine ⟨_,rfl,_,_,rfl,rfl,_,rfl,fT (decide_eq_true (by omega)) ⟨_,rfl,o.o,_,rfl, .inl (aT.of tu.tp),_,_,rfl,rfl,_,rfl,dq (by rw[aZ,decide_eq_true (by omega)];rfl) ?_⟩⟩
 refine ⟨_,rfl,_,rfl,_,rfl,w,rfl,by omega,_,rfl,_,[x],rfl,rfl,by rw[ju];simp;omega,?_⟩
 refine ⟨_,rfl,x,rfl,hx.lt,_,[aU x],rfl,rfl,by rw[ju];simp;omega,?_⟩
 refine ⟨_,rfl,_,rfl,_,rfl,w,rfl,by omega,_,_,rfl,rfl,by rw[ju,cA];simp;omega,_,rfl,_,rfl,wl,_,_,c,rfl,rfl,hH.wd,by rw[aS];exact js Ac,?_⟩
 rw[ju,cA,pG]
 have xC:bL (upd H wl (.lst (bX (ws.set c (w.take k++[x]++[aU x]++w.drop k))))) d bs os:=hH.od.Em hH.ne hH.wd
 have Th: ∀H3,ah (upd H wl (.lst (bX (ws.set c (w.take k++[x]++[aU x]++w.drop k))))) H3-> ∀(os':List Od) (H':Hp),_->_->_:=fun H3 s3 os' H'=>tE (os':=os') (H':=H') hH s3
 generalize upd H wl (.lst (bX (ws.set c (w.take k++[x]++[aU x]++w.drop k))))=H1 at xC Th ⊢
 refine ⟨_,rfl,_,rfl,_,rfl,_,rfl,by omega,by omega,fun p1 n1=>?_⟩
 have s1:=ah.upd (o:=HO.lst ((List.range ((k:Int)).toNat).map fun (j:Nat)=>V.int (0+(j:Int)))) n1
 have h1:upd H1 p1 (HO.lst ((List.range ((k:Int)).toNat).map fun (j:Nat)=>V.int (0+(j:Int)))) p1=_:=ae
 generalize upd H1 p1 (HO.lst ((List.range ((k:Int)).toNat).map fun (j:Nat)=>V.int (0+(j:Int))))=H2 at s1 h1 ⊢
 refine ⟨_,rfl,_,_,rfl,rfl,_,rfl,w,rfl,by omega,_,_,rfl,rfl,_,_,rfl,by omega,by omega,fun p4 n4=>?_⟩
 have s4:=ah.upd (o:=HO.lst ((List.range ((w.length:Int)+2 - ((k:Int)+2)).toNat).map fun (j:Nat)=>V.int ((k:Int)+2+(j:Int)))) n4
 refine ⟨p1,p4,_,_,rfl,rfl,s4 _ _ h1,ae,by simp;omega,fun p5 n5=>?_⟩
 have s5:=ah.upd (o:=HO.lst (((List.range ((k:Int)).toNat).map fun (j:Nat)=>V.int (0+(j:Int)))++(List.range ((w.length:Int)+2 - ((k:Int)+2)).toNat).map fun (j:Nat)=>V.int ((k:Int)+2+(j:Int)))) n5
 have AV:=(s1.trans s4).trans s5
 refine ⟨d,c,p5,bs,os,_,kx k,rfl,xC.same AV,hH.nd,hH.bl,by omega,ae,hH.pl hw fun i hi=>Ht hk hi,hH.pb hw fun i j hi e=>?_,fun FO H6 Ab wc oU s6=>?_⟩
 ·unfold kx at e
  split at e<;>(cases e;omega)
 obtain ⟨f1,f2,f3⟩:=Th _ AV FO H6 oU s6
 have xt:j<FO.length:=by
  have:=congrArg List.length wc
  rw[List.length_map,List.length_map]at this
  rw[this]
  exact (List.getElem?_eq_some_iff.mp ho).1
 have zR:FO[j]? =some FO[j]:=List.getElem?_eq_getElem xt
 generalize Y0:FO[j]=o1 at zR
 have g9:bg o1=cL c (kx k) (bg o):=by
  have:=congrArg (fun l=>l[j]?) wc
  simp only[List.getElem?_map,zR,ho]at this
  exact Option.some.inj this
 have MX:o1.ps.length=o.ps.length:=by
  have:=congrArg List.length g9
  rw[ki]at this
  unfold bg at this
  rwa [List.length_map,List.length_map]at this
 have zE:=List.mem_of_getElem? zR
 have Ii:=Ab.ok o1 zE
 have V1:gR H6 d (V.str (S [PyProof.Rows.lo1 x])) (some (.ref o1.o)):=by rw[<-dN hH.nd hb zR];exact gR.k (k:=kS [PyProof.Rows.lo1 x]) Ab.dk
 refine ⟨_,rfl,_,rfl,rfl,x,rfl,rfl,hx.lt,d,_,rfl,V1, .inl ⟨rfl,_,aT.of Ii.tp⟩,?_⟩
 refine ⟨_,rfl,_,rfl,_,rfl,_,_,rfl,rfl,by show 2<=sizeLine;decide,fun t1 HP=>?_⟩
 have ek:(k:Int)+1=((k+1:Nat):Int):=by omega
 rw[show (fun i j:Int=>V.int (i+j)) (k:Int) 1=V.int ((k+1:Nat):Int) from congrArg V.int ek]
 have qk:=ah.upd (o:=HO.tup [V.int c,V.int ((k+1:Nat):Int)]) HP
 have zZ:upd H6 t1 (HO.tup [V.int c,V.int ((k+1:Nat):Int)]) t1=some (HO.tup [V.int c,V.int ((k+1:Nat):Int)]):=ae
 have Ij:=Ab.same qk
 have Ti:=qk _ _ Ii.tp
 generalize upd H6 t1 (HO.tup [V.int c,V.int ((k+1:Nat):Int)])=H7 at qk zZ Ij Ti ⊢
 refine ⟨o1.o,_,n,_,rfl,rfl,Ti,by rw[aZ];omega,by rw[aZ];omega,?_⟩
 rw[show (bR o1.ps).take n++V.ref t1::(bR o1.ps).drop n=bR (o1.ps.take n++(⟨t1,c,k+1⟩:Pr)::o1.ps.drop n) from uR o1.ps n ⟨t1,c,k+1⟩]
 generalize Bw:o1.ps.take n++(⟨t1,c,k+1⟩:Pr)::o1.ps.drop n=mK
 have V2:mK.length=o1.ps.length+1:=by rw[<-Bw];simp;omega
 have Ik: ∀p∈mK,p∈o1.ps\/p=⟨t1,c,k+1⟩:=fun p hp=>by
  rw[<-Bw]at hp
  rcases List.mem_append.mp hp with g | g
  ·exact .inl (List.mem_of_mem_take g)
  ·rcases List.mem_cons.mp g with g | g
   ·exact .inr g
   ·exact .inl (List.mem_of_mem_drop g)
 have MY: ∀p∈mK,cU H7 p:=fun p hp=>by
  rcases Ik p hp with g | g
  ·exact (Ij.ok o1 zE).pr p g
  ·rw[g];exact ⟨zZ,by show c<1000;omega,by show k+1<1000;omega⟩
 have FP:=Ij.mut zR MY (by omega)
 have h8:upd H7 o1.o (HO.lst (bR mK)) o1.o=some (HO.lst (bR mK)):=ae
 have MZ:aI o1.o H7 (upd H7 o1.o (HO.lst (bR mK))):=fun a u ea z=>by rw[aq z];exact ea
 generalize upd H7 o1.o (HO.lst (bR mK))=H8 at FP h8 MZ ⊢
 have E6:(FO.set j ⟨o1.o,mK⟩)[j]? =some ⟨o1.o,mK⟩:=List.getElem?_set_self xt
 have V3:gR H8 d (V.str (S [PyProof.Rows.lo1 x])) (some (.ref o1.o)):=by rw[<-dN hH.nd hb E6];exact gR.k (k:=kS [PyProof.Rows.lo1 x]) FP.dk
 refine ⟨_,rfl,_,rfl,rfl,x,rfl,rfl,hx.lt,d,_,rfl,V3, .inl ⟨rfl,_,aT.of h8⟩,?_⟩
 refine ⟨_,rfl,_,rfl,_,rfl,by show 2<=sizeLine;decide,fun t2 FL=>?_⟩
 have jE:=ah.upd (o:=HO.tup [V.int c,V.int k]) FL
 have CL:upd H8 t2 (HO.tup [V.int c,V.int k]) t2=some (HO.tup [V.int c,V.int k]):=ae
 have M0:=FP.same jE
 have h9:=jE _ _ h8
 generalize upd H8 t2 (HO.tup [V.int c,V.int k])=H9 at jE CL M0 h9 ⊢
 refine ⟨o1.o,_,n,_,rfl,rfl,h9,by rw[aZ];omega,by rw[aZ];omega,?_⟩
 rw[show (bR mK).take n++V.ref t2::(bR mK).drop n=bR (mK.take n++(⟨t2,c,k⟩:Pr)::mK.drop n) from uR mK n ⟨t2,c,k⟩]
 have Br: ∀p∈mK.take n++(⟨t2,c,k⟩:Pr)::mK.drop n,cU H9 p:=fun p hp=>by
  have old: ∀p∈mK,cU H9 p:=fun p hp=>(M0.ok ⟨o1.o,mK⟩ (List.mem_of_getElem? E6)).pr p hp
  rcases List.mem_append.mp hp with g | g
  ·exact old p (List.mem_of_mem_take g)
  ·rcases List.mem_cons.mp g with g | g
   ·rw[g];exact ⟨CL,by show c<1000;omega,by show k<1000;omega⟩
   ·exact old p (List.mem_of_mem_drop g)
 have Tj:=M0.mut E6 Br (by simp;omega)
 rw[List.set_set]at Tj
 have e1:mK.take n=o1.ps.take n:=by rw[<-Bw,List.take_append_of_le_length (by rw[List.length_take];omega),List.take_take,Nat.min_self]
 have e2:mK.drop n=(⟨t1,c,k+1⟩:Pr)::o1.ps.drop n:=by
  rw[<-Bw,List.drop_append_of_le_length (by rw[List.length_take];omega),List.drop_of_length_le (by rw[List.length_take];omega)]
  rfl
 have Il:wl≠o1.o:=fun z=>by have:=f2 o1 zE;rw[<-z,hH.wd]at this;cases this
 refine q _ _ Tj ?_ ?_ (fun o' iC=>?_) fun a u ea za zb=>?_
 ·rw[List.map_set,wc]
  congr 1
  unfold bg
  show (mK.take n++(⟨t2,c,k⟩:Pr)::mK.drop n).map Pr.pair=put2 n (c,k) (c,k+1) (cL c (kx k) (bg o))
  rw[<-g9,e1,e2]
  unfold put2 bg
  rw[List.map_append,List.map_cons,List.map_cons,List.map_take,List.map_drop]
  rfl
 ·rw[aq Il];exact jE _ _ (MZ _ _ (qk _ _ f1) Il)
 ·rcases List.mem_or_eq_of_mem_set iC with g | g
  ·exact f2 o' g
  ·rw[g];exact f2 o1 zE
 ·have jG:a≠o1.o:=ak ea (f2 o1 zE)
  rw[aq jG]
  exact jE _ _ (MZ _ _ (qk _ _ (f3 a u ea za zb)) jG)
theorem tT:bQ P w K mg base fk 3 f8 d8 ["yard","words","orders","deed"] (lZ K):=by
 have xg:=tQ (P:=P) (w:=w) (base:=base) T
 have zF:=xf (P:=P) (w:=w) (base:=base) T
 have xh:=tS (P:=P) (w:=w) (base:=base) T
 have Bx:=zD (P:=P) (w:=w) (base:=base) T
 refine T.F8.fn.ok tL (fun vs H Q E h=>q8 h) (fun cS A outer s H vs Q E hr h=>?_)
 refine ⟨_,(af (bH (aE eQ (aB (aG K rfl) (pv 3) ag (fun _ _=>rfl)) (dZ [115,119,97,112] (by decide+kernel)) (aP _)) (ai (aH (ao xg (hr.mono (by decide)) rfl T.F4.mg T.F4.fn.kp T.F4.bd .nil aC (aa (pv 2) (aa (aB (aG K rfl) (pv 3) ag (fun _ _=>rfl)) (aa (aB (aG K rfl) (pv 3) ag (fun _ _=>rfl)) ab)))))) a_)
   (af (bH (iD (gI kT kR ag (aB (aG K rfl) (pv 3) ag (fun _ _=>rfl)) (ar (ax K rfl) rfl T.z_len PySem.boot_len (aa (pv 1) ab)))) (ai (aH fc)) a_)
   (af (bH (aE eQ (aB (aG K rfl) (pv 3) ag (fun _ _=>rfl)) (dZ [111,117,116] (by decide+kernel)) (aP _)) (ai (aH (ao zF (hr.mono (by decide)) rfl T.F5.mg T.F5.fn.kp T.F5.bd .nil aC (aa (pv 1) (aa (pv 2) (aa (aB (aG K rfl) (pv 3) ag (fun _ _=>rfl)) (aa (aB (aG K rfl) (pv 3) ag (fun _ _=>rfl)) ab))))))) a_)
   (af (bH (aE eQ (aB (aG K rfl) (pv 3) ag (fun _ _=>rfl)) (dZ [116,117,114,110] (by decide+kernel)) (aP _)) (ai (aH (ao xh (hr.mono (by decide)) rfl T.F7.mg T.F7.fn.kp T.F7.bd .nil aC (aa (pv 1) (aa (pv 2) (aa (aB (aG K rfl) (pv 3) ag (fun _ _=>rfl)) ab)))))) a_)
   (af (bH (PW.pt (gC (aE eQ (aB (aG K rfl) (pv 3) ag (fun _ _=>rfl)) (dZ [105,110] (by decide+kernel)) (aP _)) (g7 (aE (r9 K rfl) (aB (aG K rfl) (pv 3) ag (fun _ _=>rfl)) (bj (iG rfl) rfl T.z_list boot_list (aa (pv 0) ab)) (by with_unfolding_all rfl))))) (ai (aH (ao Bx (hr.mono (by decide)) rfl T.F6.mg T.F6.fn.kp T.F6.bd .nil aC (aa (pv 1) (aa (pv 2) (aa (aB (aG K rfl) (pv 3) ag (fun _ _=>rfl)) (aa (aB (aG K rfl) (pv 3) ag (fun _ _=>rfl)) (aa (aB (aG K rfl) (pv 3) ag (fun _ _=>rfl)) (aa (aB (aG K rfl) (pv 3) ag (fun _ _=>rfl)) ab))))))))) a_)
   (ai (aH fc))))))),?_⟩
 obtain ⟨y,d,wl,a,os,ws,e,rfl,hy,hz,hH,hlen,ha,bh,q⟩:=h
 have hs:(100000:Nat)<sizeLine:=by decide
 have MW:=hH.wz
 cases e with
 | swap b n=>
  have h:H a=some (.tup [.str (S B_), .str (S [b]), .int n]):=ha
  obtain ⟨hb,hn⟩:=bh
  have hj:=List.idxOf_lt_length_of_mem hb
  have M3:(aD y)[(aD y).idxOf b]? =some b:=by rw[List.getElem?_eq_getElem hj,List.getElem_idxOf hj]
  have M4:(aD y).idxOf b<os.length:=by rw[hH.od.ln];exact hj
  have ho:os[(aD y).idxOf b]? =some (os[(aD y).idxOf b]):=List.getElem?_eq_getElem M4
  generalize os[(aD y).idxOf b]=o at ho
  have eL:(os.map bg).getD ((aD y).idxOf b) []=bg o:=bB (by rw[List.getElem?_map,ho];rfl)
  rw[eL]at hn
  refine ⟨_,rfl,a,_,0,_,rfl,rfl,aW.of h,rfl,_,_,rfl,rfl,_,rfl,fT (by decide) ?_⟩
  refine ⟨_,rfl,_,rfl,a,_,1,_,rfl,rfl,aW.of h,rfl,_,rfl,a,_,2,_,rfl,rfl,aW.of h,rfl,?_⟩
  refine ⟨d,aD y,os,b,_,n,o,rfl,hH.od,hH.nd,hH.bl,M3,ho,by unfold bg at hn;rwa [List.length_map]at hn,fun H' V4 s'=>?_⟩
  have iR:=List.mem_of_getElem? ho
  refine q _ H' V4 ?_ (s' _ _ hH.wd (Ne.symm (hH.ne o iR))) (fun o' iC=> .inr ?_) fun x u ex _ _ zx=>s' x u ex fun z=>zx (by rw[z];exact List.mem_map.mpr ⟨o,iR,rfl⟩)
  ·rw[List.map_set]
   show (os.map bg).set _ ((swapAt n o.ps).map Pr.pair)=(os.map bg).set _ (gp n ((os.map bg).getD _ []))
   rw[eL,yX]
   rfl
  ·rcases List.mem_or_eq_of_mem_set iC with g | g
   ·exact List.mem_map.mpr ⟨o',g,rfl⟩
   ·rw[g];exact List.mem_map.mpr ⟨o,iR,rfl⟩
 | out c k=>
  have h:H a=some (.tup [.str (S Hu), .int c, .int k]):=ha
  obtain ⟨hc,x,Tn,To⟩:=bh
  have hw:ws[c]? =some ws[c]:=List.getElem?_eq_getElem hc
  have ew:=bB (x:=[]) hw
  generalize Tp:ws[c]=w at hw ew
  rw[ew]at Tn To
  refine ⟨_,rfl,a,_,0,_,rfl,rfl,aW.of h,rfl,_,_,rfl,rfl,_,rfl,dq (by decide) ?_⟩
  refine ⟨_,rfl,a,_,1,_,rfl,rfl,aW.of h,rfl,_,_,rfl,rfl,_,rfl,fT (decide_eq_true (by omega)) ⟨_,rfl,wl,_,rfl, .inl (aT.of hH.wd),_,_,rfl,rfl,_,rfl,dq (by rw[aS,decide_eq_true (by omega)];rfl) ?_⟩⟩
  refine ⟨_,rfl,a,_,0,_,rfl,rfl,aW.of h,rfl,_,_,rfl,rfl,_,rfl,fT (by decide) ?_⟩
  refine ⟨_,rfl,_,rfl,_,rfl,a,_,1,_,rfl,rfl,aW.of h,rfl,_,rfl,a,_,2,_,rfl,rfl,aW.of h,rfl,?_⟩
  refine ⟨d,wl,aD y,os,ws,c,k,w,x,rfl,hH,hw,Tn,To,fun os' H' g1 g2 g3 g4 g5=>?_⟩
  refine q os' H' g1 ?_ ?_ (fun o ho=> .inl (g4 o ho)) fun x u ex z1 z2 _=>g5 x u ex z1 z2
  ·rw[g2];show _=(os.map bg).map (cL c (outF k));rw[List.map_map];rfl
  ·show _=some (HO.lst (bX (ws.set c ((ws.getD c []).take k++(ws.getD c []).drop (k+2)))));rw[ew];exact g3
 | turn c=>
  have h:H a=some (.tup [.str (S Ca), .int c]):=ha
  have hc:c<ws.length:=bh
  have hw:ws[c]? =some ws[c]:=List.getElem?_eq_getElem hc
  have ew:=bB (x:=[]) hw
  generalize Tp:ws[c]=w at hw ew
  refine ⟨_,rfl,a,_,0,_,rfl,rfl,aW.of h,rfl,_,_,rfl,rfl,_,rfl,dq (by decide) ?_⟩
  refine ⟨_,rfl,a,_,1,_,rfl,rfl,aW.of h,rfl,_,_,rfl,rfl,_,rfl,fT (decide_eq_true (by omega)) ⟨_,rfl,wl,_,rfl, .inl (aT.of hH.wd),_,_,rfl,rfl,_,rfl,dq (by rw[aS,decide_eq_true (by omega)];rfl) ?_⟩⟩
  refine ⟨_,rfl,a,_,0,_,rfl,rfl,aW.of h,rfl,_,_,rfl,rfl,_,rfl,dq (by decide) ?_⟩
  refine ⟨_,rfl,a,_,0,_,rfl,rfl,aW.of h,rfl,_,_,rfl,rfl,_,rfl,fT (by decide) ?_⟩
  refine ⟨_,rfl,_,rfl,_,rfl,a,_,1,_,rfl,rfl,aW.of h,rfl,?_⟩
  refine ⟨d,wl,aD y,os,ws,c,w,rfl,hH,hw,fun os' H' g1 g2 g3 g4 g5=>?_⟩
  refine q os' H' g1 ?_ ?_ (fun o ho=> .inl (g4 o ho)) fun x u ex z1 z2 _=>g5 x u ex z1 z2
  ·rw[g2];show _=(os.map bg).map (cL c (gn (ws.getD c []).length));rw[ew,List.map_map];rfl
  ·show _=some (HO.lst (bX (ws.set c ((ws.getD c []).drop 1++(ws.getD c []).take 1))));rw[ew];exact g3
 | ins c k x n=>
  have h:H a=some (.tup [.str (S SM), .int c, .int k, .str (S [x]), .int n]):=ha
  obtain ⟨hc,hk,Hw,wR,hn⟩:=bh
  have hw:ws[c]? =some ws[c]:=List.getElem?_eq_getElem hc
  have ew:=bB (x:=[]) hw
  generalize Tp:ws[c]=w at hw ew
  rw[ew]at hk Hw
  have hb:=yR hy wR
  have hj:=List.idxOf_lt_length_of_mem hb
  have M3:(aD y)[(aD y).idxOf (PyProof.Rows.lo1 x)]? =some (PyProof.Rows.lo1 x):=by rw[List.getElem?_eq_getElem hj,List.getElem_idxOf hj]
  have M4:(aD y).idxOf (PyProof.Rows.lo1 x)<os.length:=by rw[hH.od.ln];exact hj
  have ho:os[(aD y).idxOf (PyProof.Rows.lo1 x)]? =some (os[(aD y).idxOf (PyProof.Rows.lo1 x)]):=List.getElem?_eq_getElem M4
  generalize os[(aD y).idxOf (PyProof.Rows.lo1 x)]=o at ho
  have eL:(os.map bg).getD ((aD y).idxOf (PyProof.Rows.lo1 x)) []=bg o:=bB (by rw[List.getElem?_map,ho];rfl)
  rw[eL]at hn
  refine ⟨_,rfl,a,_,0,_,rfl,rfl,aW.of h,rfl,_,_,rfl,rfl,_,rfl,dq (by decide) ?_⟩
  refine ⟨_,rfl,a,_,1,_,rfl,rfl,aW.of h,rfl,_,_,rfl,rfl,_,rfl,fT (decide_eq_true (by omega)) ⟨_,rfl,wl,_,rfl, .inl (aT.of hH.wd),_,_,rfl,rfl,_,rfl,dq (by rw[aS,decide_eq_true (by omega)];rfl) ?_⟩⟩
  refine ⟨_,rfl,a,_,0,_,rfl,rfl,aW.of h,rfl,_,_,rfl,rfl,_,rfl,dq (by decide) ?_⟩
  refine ⟨_,rfl,a,_,0,_,rfl,rfl,aW.of h,rfl,_,_,rfl,rfl,_,rfl,dq (by decide) ?_⟩
  refine ⟨_,rfl,a,_,0,_,rfl,rfl,aW.of h,rfl,_,_,rfl,rfl,_,rfl,fT (by decide) ?_⟩
  refine ⟨_,rfl,a,_,3,_,rfl,rfl,aW.of h,rfl,_,rfl,y,rfl,by omega,fun p np=>?_⟩
  refine ⟨p,_,rfl, .inl (aT.of ae),rfl,yh _,_,rfl,fT (by show Av (.str (S [x])) (bY y)=true;rw[AN];exact decide_eq_true wR) ?_⟩
  have sP:=ah.upd (o:=HO.lst (bY y)) np
  have h1:=sP _ _ h
  have V5:=hH.same sP
  refine ⟨_,rfl,_,rfl,_,rfl,a,_,1,_,rfl,rfl,aW.of h1,rfl,_,rfl,a,_,2,_,rfl,rfl,aW.of h1,rfl,_,rfl,a,_,3,_,rfl,rfl,aW.of h1,rfl,_,rfl,a,_,4,_,rfl,rfl,aW.of h1,rfl,?_⟩
  have xA:=hlen o (List.mem_of_getElem? ho)
  refine ⟨d,wl,aD y,os,ws,c,k,n,_,w,x,o,rfl,V5,hw,hk,hy.lt x wR,M3,ho,by unfold bg at hn;rwa [List.length_map]at hn,xA,fun os' H' g1 g2 g3 g4 g5=>?_⟩
  refine q os' H' g1 ?_ ?_ (fun o ho=> .inl (ah.free sP (g4 o ho))) fun x u ex z1 z2 _=>g5 x u (sP x u ex) z1 z2
  ·rw[g2]
   show _=((os.map bg).map (cL c (kx k))).set _ (put2 n (c,k) (c,k+1) (cL c (kx k) ((os.map bg).getD _ [])))
   rw[eL,List.map_map]
   rfl
  ·show _=some (HO.lst (bX (ws.set c ((ws.getD c []).take k++[x]++[aU x]++(ws.getD c []).drop k))));rw[ew];exact g3
theorem vb:bQ P w K mg base fk 4 f9 d9 ["yard","drawing","deeds"] (uU K):=by
 have ie:=mB (P:=P) (w:=w) (base:=base) T
 have xj:=tT (P:=P) (w:=w) (base:=base) T
 refine T.F9.fn.ok gf (fun vs H Q E h=>y6 h) (fun cS A outer s H vs Q E hr h=>?_)
 refine ⟨_,(af (au (i:=3) gf.nd rfl (Or.inl rfl) (bj (cR K rfl) rfl T.z_list boot_list (aa (aB (aG K rfl) (pv 1) ag (fun _ _=>rfl)) ab)))
   (af (au (i:=4) gf.nd rfl (Or.inr rfl) ym)
   (af (bw PassesOwn.never rfl (yp K rfl rfl T.z_zip (aa (ao ie (hr.mono (by decide)) rfl T.F2.mg T.F2.fn.kp T.F2.bd .nil aC (aa (pv 0) ab)) (aa (aB (aG K rfl) (pv 1) ag (fun _ _=>rfl)) ab))) (cm (n:=2) K rfl rfl (aN (aw (i:=5) gf.nd rfl (Or.inl rfl)) (aN (aw (i:=6) gf.nd rfl (Or.inl rfl)) cj))) (ai (uD (ip hr) (pv 4) (pv 5) (bj (cR K rfl) rfl T.z_list boot_list (aa (pv 6) ab)) rfl)))
   (af (bw PassesOwn.never rfl (qp K rfl rfl T.z_enumerate (aa (pv 2) ab)) (cm (n:=2) K rfl rfl (aN (aw (i:=7) gf.nd rfl (Or.inl rfl)) (aN (aw (i:=8) gf.nd rfl (Or.inl rfl)) cj))) (ai (bH (iD (oH (ao xj (hr.mono (by decide)) rfl T.F8.mg T.F8.fn.kp T.F8.bd .nil aC (aa (pv 0) (aa (pv 3) (aa (pv 4) (aa (pv 8) ab))))))) (ai iY) a_)))
   (ai (aH (bI (aa (bj (bJ K rfl) rfl T.z_tuple boot_tuple (aa (pv 3) ab)) (aa (bj (bJ K rfl) rfl T.z_tuple boot_tuple (aa (di ["band","orders"] [none,some 4] (oV (ao ie (hr.mono (by decide)) rfl T.F2.mg T.F2.fn.kp T.F2.bd .nil aC (aa (pv 0) ab))) ⟨⟨rfl,rfl,by first | exact .inl rfl | exact .inr rfl⟩,trivial⟩ (fun _ _ _ _=>(aw (i:=0) (by decide+kernel:List.Nodup (["band","orders"]:List Str)) rfl (Or.inl rfl))) (fun _ _ _ _=>jM) (fun _ _ _ _=>(bj (bJ K rfl) rfl T.z_tuple boot_tuple (aa (fS (ip hr) (pv 1) (pv 0) (fun _ _=>rfl)) ab)))) ab)) ab))))))))),?_⟩
 obtain ⟨y,dr,ws,os,ep,ds,rfl,hy,hz,hg,hd,M5,u7,z0,Im,q⟩:=h
 have hs:(100000:Nat)<sizeLine:=by decide
 have Cb:=eY hy
 have zU:=q9 hy
 have xA:os.length=(aD y).length:=by have:=hg.lk.1;rwa [List.length_map]at this
 obtain ⟨⟨wt,ot,d1,d2,d3⟩,dO⟩:=id hd
 refine ⟨_,rfl,dr,_,0,_,rfl,rfl,aW.of d1,rfl,wt,_,rfl, .inr (aW.of d2),fun wl Tq=>?_⟩
 have s1:=ah.upd (o:=HO.lst (bX ws)) Tq
 have qf:upd H wl (HO.lst (bX ws)) wl=some (HO.lst (bX ws)):=ae
 generalize upd H wl (HO.lst (bX ws))=H1 at s1 qf ⊢
 intro d nd
 have s2:=ah.upd (o:=HO.dK []) nd
 have hd2:upd H1 d (HO.dK []) d=some (HO.dK []):=ae
 have Io:=s2 _ _ qf
 have FQ:H d=none:=ah.free s1 nd
 have V6:d≠wl:=Ne.symm (ak qf nd)
 have FR:=s1.trans s2
 generalize upd H1 d (HO.dK [])=H2 at s2 hd2 Io FR ⊢
 refine ⟨_,rfl,y,rfl,fun c hc=>(hy.lt c hc).lt,by omega,fun l0 H3 oa B6 s3=>?_⟩
 have el:=hR oa B6
 subst el
 have va:=FR.trans s3
 have V7:=s3 _ _ hd2
 have Ip:=s3 _ _ Io
 refine ⟨_,rfl,dr,_,1,_,rfl,rfl,aW.of (va _ _ d1),rfl,?_⟩
 refine ⟨_,ot,rfl,⟨_,aW.of (va _ _ d3)⟩,?_⟩
 refine AX (Sq1:=Hi (aD y)) (Sq2:=vV K ot) (xs:=bY (aD y)) (ys:=mV os) (fun i σ H'=> ∃(bv ov:Option V) (cur:List Od),σ=[some (.str (S y)),some (.ref dr),some (.ref ep),some (.ref wl),some (.ref d),bv,ov,none,none]/\cur.length=i/\H' d=some (.dK (dh ((aD y).take i) cur))/\(cur.map Od.o).Nodup/\(∀o∈cur,iQ H' o)/\cur.map bg=(os.take i).map bg/\(∀o∈cur,H3 o.o=none)/\aI d H3 H') (by rw[aQ,pw];exact xA.symm)
  ⟨none,none,[],rfl,rfl,V7,List.nodup_nil,by simp,rfl,by simp,aI.refl _ _⟩ (fun i σ H' _ ⟨_,_,_,_,_,_,_,_,_,_,s⟩=>⟨rfl,aW.of (s _ _ (va _ _ d3) (ak d3 FQ))⟩) ?_ ?_
 ·rintro i x z σ H4 T hx Tr ⟨bv,ov,cur,rfl,mh,E7,M6,Iq,xB,KC,s4⟩ nT
  obtain ⟨b,hb,rfl⟩:=dH hx
  have hi:i<(aD y).length:=(List.getElem?_eq_some_iff.mp hb).1
  have xD:i<os.length:=by omega
  have rC:os[i]? =some os[i]:=List.getElem?_eq_getElem xD
  have JG:z=V.ref os[i].o:=by rw[lQ rC]at Tr;exact (Option.some.inj Tr).symm
  subst JG
  have iR:os[i]∈os:=List.getElem_mem xD
  generalize os[i]=o at rC iR
  have bh:=dO o iR
  have sT:=ah.upd (o:=HO.tup [V.str (S [b]),V.ref o.o]) nT
  have Y1:T≠d:=Ne.symm (ak E7 nT)
  refine ⟨T,_,rfl,aW.of ae,rfl,_,_,rfl,_,_,rfl,rfl,?_⟩
  have Mr:fZ H4 o:=⟨s4 _ _ (va _ _ bh.tp) (ak bh.tp FQ),fun p hp=>⟨s4 _ _ (va _ _ (bh.pr p hp).tp) (ak (bh.pr p hp).tp FQ),(bh.pr p hp).cz,(bh.pr p hp).iz⟩,bh.fw⟩
  have M7:=Mr.same sT
  have zm:=sT _ _ E7
  have V8: ∀o∈cur,iQ (upd H4 T (HO.tup [V.str (S [b]),V.ref o.o])) o->True:=fun _ _ _=>trivial
  refine ⟨_,rfl,o.o,_,rfl, .inr (aW.of M7.tp),fun p6 n6=>?_⟩
  have s6:=ah.upd (o:=HO.lst (bR o.ps)) n6
  have M8:=sT.trans s6
  have EV:=s6 _ _ zm
  have Ts:H4 p6=none:=ah.free sT n6
  have Tt:p6≠d:=Ne.symm (ak zm n6)
  have Ir:iQ (upd (upd H4 T (HO.tup [V.str (S [b]),V.ref o.o])) p6 (HO.lst (bR o.ps))) ⟨p6,o.ps⟩:=⟨ae,fun p hp=>(M7.pr p hp).same s6,M7.fw⟩
  generalize upd (upd H4 T (HO.tup [V.str (S [b]),V.ref o.o])) p6 (HO.lst (bR o.ps))=H6 at s6 M8 EV Ir ⊢
  have DE:gu (dh ((aD y).take i) cur) (kS [b])=none:=nZ fun m=>by
   obtain ⟨k,hk,e⟩:=List.mem_iff_getElem.mp m
   rw[List.length_take]at hk
   rw[List.getElem_take]at e
   have:=List.pairwise_iff_getElem.mp zU k i (by omega) hi (by omega)
   rw[e,(List.getElem?_eq_some_iff.mp hb).2]at this
   exact this rfl
  have Y2:((aD y).take i).length=i:=by rw[List.length_take];omega
  refine ⟨_,rfl,_,rfl,d,_,rfl,vO.k (k:=kS [b]) EV (by rw[lW (by omega)];omega),?_⟩
  rw[yk _ DE]
  have eo:dh ((aD y).take i) cur++[(kS [b],V.ref p6)]=dh ((aD y).take (i+1)) (cur++[⟨p6,o.ps⟩]):=by
   rw[<-take_snoc hb]
   exact wU (o:=⟨p6,o.ps⟩) (by omega)
  rw[eo]
  have up: ∀{x:Od},iQ H6 x->x.o≠d->iQ (upd H6 d (.dK (dh ((aD y).take (i+1)) (cur++[⟨p6,o.ps⟩])))) x:=fun {x} hx jG=>
   ⟨by rw[aq jG];exact hx.tp,fun p hp=>⟨by rw[aq (fun z=>by have:=(hx.pr p hp).tp;rw[z,EV]at this;cases this)];exact (hx.pr p hp).tp,(hx.pr p hp).cz,(hx.pr p hp).iz⟩,hx.fw⟩
  refine ⟨_,_,cur++[⟨p6,o.ps⟩],rfl,by simp[mh],ae,?_,fun x hx=>?_,?_,fun x hx=>?_,fun a u ea zz=>?_⟩
  ·rw[List.map_append,List.nodup_append]
   refine ⟨M6,by simp,fun a ha b' B9 e=>?_⟩
   obtain ⟨o',iC,rfl⟩:=List.mem_map.mp ha
   have e2:b'=p6:=by simpa using B9
   have:=(Iq o' iC).tp
   rw[e,e2,Ts]at this
   cases this
  ·rcases List.mem_append.mp hx with g | g
   ·exact up ((Iq x g).same M8) (fun zz=>by have:=(Iq x g).tp;rw[zz,E7]at this;cases this)
   ·rw[List.mem_singleton.mp g];exact up Ir Tt
  ·rw[List.map_append,xB, <-take_snoc rC,List.map_append];rfl
  ·rcases List.mem_append.mp hx with g | g
   ·exact KC x g
   ·rw[List.mem_singleton.mp g];exact s4.none Ts Tt
  ·rw[aq zz];exact M8 _ _ (s4 a u ea zz)
 ·rintro σ H4 ⟨bv,ov,cur,rfl,mh,E7,M6,Iq,xB,KC,s4⟩
  rw[aQ]at mh E7 xB
  rw[List.take_length]at E7
  rw[<-xA,List.take_length]at xB
  have V9:bL H4 d (aD y) cur:=⟨E7,mh,M6,Iq⟩
  have M9:H4 ep=some (.lst (dQ ds)):=s4 _ _ (va _ _ M5) (ak M5 FQ)
  have V_:ah H H4:=fun a u ea=>s4 _ _ (va _ _ ea) (ak ea FQ)
  have M_:=s4 _ _ Ip (Ne.symm V6)
  have Na: ∀o∈cur,H o.o=none:=fun o ho=>ah.free va (KC o ho)
  refine ⟨_,rfl,ep,rfl,⟨_,aT.of M9⟩,?_⟩
  refine vM (K:=K) (a:=ep) (xs:=dQ ds) (fun i σ H'=> ∃(nv dv:Option V) (cu:List Od) (vc:List (List Nat)),σ=[some (.str (S y)),some (.ref dr),some (.ref ep),some (.ref wl),some (.ref d),bv,ov,nv,dv]/\bL H' d (aD y) cu/\H' wl=some (.lst (bX vc))/\Good y vc (cu.map bg)/\(∀o∈cu,o.o≠wl)/\(∀o∈cu,H o.o=none)/\Path y vc (cu.map bg) ((ds.drop i).map Dd.e)/\eA y vc (cu.map bg) ((ds.drop i).map Dd.e)=eA y ws (os.map bg) (ds.map Dd.e)/\ah H H')
   ⟨none,none,cur,ws,rfl,V9,M_,by rw[xB];exact hg,fun o ho zz=>absurd (KC o ho) (by rw[zz,Ip];exact Option.some_ne_none _),Na,by rw[xB];exact Im,by rw[xB];rfl,V_⟩ (fun i σ H' _ ⟨_,_,_,_,_,_,_,_,_,_,_,_,s⟩=>aT.of (s _ _ M5)) ?_ ?_
  ·rintro i x σ H5 T hx ⟨nv,dv,cu,vc,rfl,zC,FK,Iu,E8,Nb,By,u9,s5⟩ nT
   obtain ⟨dd,Tu,rfl⟩:=Ep hx
   have Nd:=List.mem_of_getElem? Tu
   have hi:=List.getElem?_eq_some_iff.mp Tu
   have Wa:(ds.drop i).map Dd.e=dd.e::(ds.drop (i+1)).map Dd.e:=by rw[List.drop_eq_getElem_cons hi.1,hi.2];rfl
   rw[Wa]at By u9
   obtain ⟨bh,Aa⟩:=By
   have sT:=ah.upd (o:=HO.tup [V.int i,V.ref dd.a]) nT
   refine ⟨T,_,rfl,aW.of ae,rfl,_,_,rfl,_,_,rfl,rfl,?_⟩
   have hold:=(Iu.hold hy hz zC FK E8).same sT
   refine ⟨_,rfl,_,rfl,_,rfl,_,rfl,y,d,wl,dd.a,cu,vc,dd.e,rfl,hy,hz,hold,fun o ho=>Nat.le_trans (Iu.len o ho) (by decide),(u7 dd Nd).ts (aF.of (s5.trans sT)),bh,fun os' H' g1 g2 g3 g4 g5=>?_⟩
   refine ⟨_,rfl,dq rfl ?_⟩
   have Wb:H wl=none:=Tq
   have Wc:Good y (dW vc dd.e) (os'.map bg):=by rw[g2];exact Iu.step hy bh
   have oU: ∀o∈os',H o.o=none:=fun o ho=>by
    rcases g4 o ho with g | g
    ·exact ah.free (s5.trans sT) g
    ·obtain ⟨o',iC,e⟩:=List.mem_map.mp g
     rw[<-e];exact Nb o' iC
   refine ⟨_,_,os',dW vc dd.e,rfl,g1,g3,Wc,fun o ho zz=>?_,oU,by rw[g2];exact Aa,by rw[g2];exact u9,fun a u ea=>?_⟩
   ·rcases g4 o ho with g | g
    ·rw[zz,hold.wd]at g;cases g
    ·obtain ⟨o',iC,e⟩:=List.mem_map.mp g
     exact E8 o' iC (e.trans zz)
   ·refine g5 a u (sT _ _ (s5 a u ea)) (ak ea FQ) (ak ea Wb) fun zz=>?_
    obtain ⟨o',iC,e⟩:=List.mem_map.mp zz
    have:=Nb o' iC
    rw[e,ea]at this
    cases this
  ·rintro σ H5 ⟨nv,dv,cu,vc,rfl,zC,FK,Iu,E8,Nb,By,u9,s5⟩
   rw[bZ,List.drop_length]at u9
   have Wd:(vc,cu.map bg)=eA y ws (os.map bg) (ds.map Dd.e):=u9
   rw[<-Wd]at q
   have Nf:=zC.ln
   refine ⟨_,rfl,wl,_,rfl, .inl ⟨aT.of FK,fun tw We=>?_⟩⟩
   have sw:=ah.upd (o:=HO.tup (bX vc)) We
   have Tv:upd H5 tw (HO.tup (bX vc)) tw=some (HO.tup (bX vc)):=ae
   have Ab:=zC.same sw
   have s6:=s5.trans sw
   generalize upd H5 tw (HO.tup (bX vc))=H6 at sw Tv Ab s6 ⊢
   refine ⟨_,rfl,y,rfl,fun c hc=>(hy.lt c hc).lt,by omega,fun l0 H7 oa B6 s7=>?_⟩
   have el:=hR oa B6
   subst el
   have Ij:=Ab.same s7
   have Ng:=s7 _ _ Tv
   have Wf:=s6.trans s7
   refine ⟨_,rfl,?_⟩
   refine lr (xs:=bY (aD y)) (fun i acc H'=>ah H7 H'/\ ∃oo:List Od,acc=mV oo/\(∀o∈oo,fZ H' o)/\oo.map bg=(cu.take i).map bg) (by rw[aQ];omega) ⟨ah.refl _,[],rfl,fun _ h=>absurd h List.not_mem_nil,rfl⟩ ?_ ?_
   ·rintro i x acc H8 Nx hi hx gA ⟨s8,oo,rfl,zY,vT⟩ nx
    obtain ⟨b,hb,rfl⟩:=dH hx
    have Y3:i<(aD y).length:=(List.getElem?_eq_some_iff.mp hb).1
    have rC:cu[i]? =some cu[i]:=List.getElem?_eq_getElem (by omega)
    have iR:cu[i]∈cu:=List.getElem_mem (by omega)
    generalize cu[i]=o at rC iR
    have FP:=Ij.same s8
    refine ⟨⟨rfl,trivial⟩,jk ?_⟩
    refine ⟨_,rfl,_,rfl,d,_,rfl,by rw[<-dN zU hb rC];exact gR.k (k:=kS [b]) FP.dk,?_⟩
    have BY:=FP.ok o iR
    refine ⟨o.o,_,rfl, .inl ⟨aT.of BY.tp,fun t nt=>?_⟩⟩
    refine nx _ _ (by simpa using gA) ⟨s8.trans (ah.upd nt),oo++[⟨t,o.ps⟩],qQ oo ⟨t,o.ps⟩,fun o' ho=>?_,?_⟩
    ·rcases List.mem_append.mp ho with g | g
     ·exact (zY o' g).same (ah.upd nt)
     ·have e:=List.mem_singleton.mp g
      subst e
      exact ⟨ae,fun p hp=>(BY.pr p hp).same (ah.upd nt),BY.fw⟩
    ·rw[List.map_append,vT, <-take_snoc rC,List.map_append]
     rfl
   ·rintro acc H8 D gA ⟨s8,oo,rfl,zY,vT⟩ hD
    rw[aQ, <-Nf,List.take_length]at vT
    refine ⟨D,_,rfl, .inl ⟨aT.of ae,fun t nt=>?_⟩⟩
    refine ⟨by show 2<=sizeLine;decide,fun Hy EY=>?_⟩
    have sA:=(ah.upd (o:= .lst (mV oo)) hD).trans ((ah.upd (o:= .tup (mV oo)) nt).trans (ah.upd (o:= .tup [.ref tw, .ref t]) EY))
    have MF:t≠Hy:=fun z=>by rw[<-z,ae]at EY;cases EY
    exact q Hy oo _ ⟨⟨tw,t,ae,sA _ _ (s8 _ _ Ng),by rw[aq MF,ae]⟩,fun o ho=>(zY o ho).same sA⟩ vT (by rw[vT];exact Iu) ((Wf.trans s8).trans sA)
theorem Bz:bQ P w K mg base fk 7 Cs Kd ["yard","one","other"] (uX K):=by
 have pR:=m8 (P:=P) (w:=w) (base:=base) T
 have rD:=pQ (P:=P) (w:=w) (base:=base) T
 have mF:=vb (P:=P) (w:=w) (base:=base) T
 have ie:=mB (P:=P) (w:=w) (base:=base) T
 have pS:=m7 (P:=P) (w:=w) (base:=base) T
 refine T.ED.fn.ok gh (fun vs H Q E h=>ze h) (fun cS A outer s H vs Q E hr h=>?_)
 refine ⟨_,(af (bH (iD (oH (ao pR (hr.mono (by decide)) rfl T.EC.mg T.EC.fn.kp T.EC.bd .nil aC (aa (aB (aG K rfl) (pv 1) ag (fun _ _=>rfl)) (aa (aB (aG K rfl) (pv 2) ag (fun _ _=>rfl)) ab))))) (ai (aH jI)) a_)
   (af (au (i:=3) gh.nd rfl (Or.inl rfl) (bp ab))
   (af (bw PassesOwn.never rfl (fA K rfl rfl T.z_enumerate (aa (aB (aG K rfl) (pv 1) ag (fun _ _=>rfl)) ab)) (cm (n:=2) K rfl rfl (aN (aw (i:=4) gh.nd rfl (Or.inl rfl)) (aN (aw (i:=5) gh.nd rfl (Or.inl rfl)) cj))) (ai (ba (bf K rfl PySem.F.plainAttrs_list PySem.F.slot_list_extend PySem.F.type_list_extend g8 (pv 3) (aa (ao rD (hr.mono (by decide)) rfl T.EA.mg T.EA.fn.kp T.EA.bd .nil aC (aa (pv 4) (aa (pv 5) (aa (aB (aG K rfl) (aB (aG K rfl) (pv 2) ag (fun _ _=>rfl)) (pv 4) (fun _ _=>rfl)) ab)))) ab)))))
   (af (au (i:=6) gh.nd rfl (Or.inl rfl) (ao mF (hr.mono (by decide)) rfl T.F9.mg T.F9.fn.kp T.F9.bd .nil aC (aa (pv 0) (aa (pv 1) (aa (pv 3) ab)))))
   (af (bw PassesOwn.never rfl (gO rfl T.z_enumerate (aa (ao ie (hr.mono (by decide)) rfl T.F2.mg T.F2.fn.kp T.F2.bd .nil aC (aa (pv 0) ab)) ab)) (cm (n:=2) K rfl rfl (aN (aw (i:=7) gh.nd rfl (Or.inl rfl)) (aN (aw (i:=8) gh.nd rfl (Or.inl rfl)) cj))) (ai (ba (bf K rfl PySem.F.plainAttrs_list PySem.F.slot_list_extend PySem.F.type_list_extend g8 (pv 3) (aa (ao pS (hr.mono (by decide)) rfl T.EB.mg T.EB.fn.kp T.EB.bd .nil aC (aa (pv 8) (aa (aB (aG K rfl) (aB (aG K rfl) (pv 6) ag (fun _ _=>rfl)) (pv 7) (fun _ _=>rfl)) (aa (aB (aG K rfl) (aB (aG K rfl) (pv 2) ag (fun _ _=>rfl)) (pv 7) (fun _ _=>rfl)) ab)))) ab)))))
   (ai (aH (pv 3)))))))),?_⟩
 obtain ⟨y,d,e,ws,vs',os,ps,rfl,hy,Mp,E9,CP,hd,he,qN,qS⟩:=h
 have hs:(100000:Nat)<sizeLine:=by decide
 obtain ⟨⟨Nh,Y4,a1,a2,a3⟩,aO⟩:=id hd
 obtain ⟨⟨Iv,Tw,b1,b2,b3⟩,bO⟩:=id he
 have Cb:=eY hy
 have Wg: ∀w∈ws,(∀c∈w,Lt c)/\w.length<=12:=fun w hw=>⟨fun c hc=>hy.lt c ((E9.gX w hw).1 c hc),(E9.gX w hw).2⟩
 have Wh: ∀w∈vs',(∀c∈w,Lt c)/\w.length<=12:=fun w hw=>⟨fun c hc=>hy.lt c ((CP.gX w hw).1 c hc),(CP.gX w hw).2⟩
 have Kv:=E9.jQ
 have VW:=CP.jQ
 refine ⟨_,rfl,d,_,0,_,rfl,rfl,aW.of a1,rfl,_,rfl,e,_,0,_,rfl,rfl,aW.of b1,rfl,Nh,Iv,ws,vs',rfl,a2,b2,E9.jQ,CP.jQ,Wg,Wh,fun H1 s1=>⟨_,rfl,cO (fun z=>?_) (fun z=>?_)⟩⟩
 ·have jG:ws.map az≠vs'.map az:=fun g=>by rw[decide_eq_true g]at z;cases z
  exact qN jG H1 s1
 have heq:ws.map az=vs'.map az:=by
  by_cases g:ws.map az=vs'.map az
  ·exact g
  ·rw[decide_eq_false g]at z;exact absurd rfl z
 have q:=qS heq
 have hlen:ws.length=vs'.length:=by have:=congrArg List.length heq;rwa [List.length_map,List.length_map]at this
 (repeat (first | refine ⟨_,rfl,?_⟩ | refine ⟨_,_,rfl,rfl,?_⟩ | refine ⟨_,_,_,rfl,rfl,by first | assumption | omega,by assumption,?_⟩ | refine ⟨rfl,?_⟩ | refine And.intro (by first | decide | omega | assumption | exact Nat.le_of_ble_eq_true rfl | exact .inl ⟨by decide,by decide⟩ | exact .inr ⟨by decide,by decide⟩ | exact ⟨by decide,by decide⟩ | exact ⟨by omega,by omega⟩) ?_))
 intro D nD
 have s2:=s1.trans (ah.upd (o:=HO.lst []) nD)
 have CM:fG H (upd H1 D (HO.lst [])) D []:=⟨ae,fun _ h=>absurd h List.not_mem_nil,s2⟩
 have Ni:H D=none:=ah.free s1 nD
 generalize upd H1 D (HO.lst [])=H2 at CM s2 ⊢
 refine ⟨_,rfl,d,_,0,_,rfl,rfl,aW.of (s2 _ _ a1),rfl,Nh,rfl,⟨_,aW.of (s2 _ _ a2)⟩,?_⟩
 refine eG (K:=K) (a:=Nh) (xs:=bX ws) (fun j σ H'=> ∃(ds:List Dd) (cv wv:Option V),σ=[some (.str (S y)),some (.ref d),some (.ref e),some (.ref D),cv,wv,none,none,none]/\fG H H' D ds/\Path y ws (os.map bg) (ds.map Dd.e)/\(eA y ws (os.map bg) (ds.map Dd.e)).1=vs'.take j++ws.drop j/\Good y (vs'.take j++ws.drop j) (eA y ws (os.map bg) (ds.map Dd.e)).2/\ds.length<=1000*j)
  ⟨[],none,none,rfl,CM,trivial,rfl,E9,Nat.zero_le _⟩ (fun j σ H' _ ⟨_,_,_,_,h,_⟩=>aW.of (h.sm _ _ a2)) ?_ ?_
 ·rintro j x σ H3 T hx ⟨ds,cv,wv,rfl,oB,CQ,m9,Iw,zw⟩ nT
  have hj:j<ws.length:=by
   have:=(List.getElem?_eq_some_iff.mp hx).1
   rwa [aS]at this
  rw[iL hj]at hx
  cases hx
  have w5:ws[j]? =some ws[j]:=List.getElem?_eq_getElem hj
  have Iy:vs'[j]? =some (vs'[j]'(by omega)):=List.getElem?_eq_getElem (by omega)
  obtain ⟨tP,rq⟩:=E9.gX _ (List.getElem_mem hj)
  have u_:az ws[j]=az (vs'[j]'(by omega)):=by
   have:=congrArg (fun l:List (List Nat)=>l[j]?) heq
   simp only[List.getElem?_map,w5,Iy]at this
   exact Option.some.inj this
  obtain ⟨H_,Ky⟩:=CP.gX _ (List.mem_of_getElem? Iy)
  generalize ws[j]=w at w5 tP rq u_ ⊢
  generalize (vs'[j]'(by omega))=v at Iy H_ Ky u_
  refine ⟨T,_,rfl,aW.of ae,rfl,_,_,rfl,_,_,rfl,rfl,?_⟩
  have sT:=ah.upd (o:=HO.tup [.int j, .str (S w)]) nT
  have pU:=oB.same sT
  generalize upd H3 T (HO.tup [.int j, .str (S w)])=H4 at pU ⊢
  clear sT nT oB
  refine ⟨_,rfl, .inl ⟨rfl,_,aT.of pU.ls⟩,_,rfl,_,rfl,_,rfl,e,_,0,_,rfl,rfl,aW.of (pU.sm _ _ b1),rfl,_,rfl,Iv,_,_,_,rfl,rfl,aW.of (pU.sm _ _ b2),aM (zg Iy),?_⟩
  refine ⟨y,j,w,v,rfl,hy,tP,rq,H_,Ky,u_,fun b es H5 nb hb Ia EU wI s5=>?_⟩
  have hmg:((eA y ws (os.map bg) (ds.map Dd.e)).1)[j]? =some w:=by rw[m9];exact uY (by omega) w5
  rw[<-m9]at Iw
  obtain ⟨l1,l2,l3⟩:=WP.lift hy EU Iw hmg
  rw[m9,uZ hj Iy]at l2 l3
  refine ⟨D,b,_,_,rfl,rfl,s5 _ _ pU.ls,hb,by rw[bZ,bZ];omega,?_⟩
  rw[kI]
  refine ⟨ds++es,_,_,rfl,pU.ext (b:=b) Ni s5 Ia,?_,?_,?_,by rw[List.length_append];omega⟩
  ·rw[List.map_append];exact mi CQ l1
  ·rw[List.map_append,kG,m9];exact l2
  ·rw[List.map_append,kG,m9];exact l3
 ·rintro σ H3 ⟨ds,cv,wv,rfl,oB,CQ,m9,Iw,zw⟩
  rw[aS]at m9 Iw zw
  have e1:vs'.take ws.length++ws.drop ws.length=vs':=by rw[List.drop_length,List.append_nil,List.take_of_length_le (by omega)]
  rw[e1]at m9 Iw
  refine ⟨_,rfl,_,rfl,_,rfl,y,d,ws,os,D,ds,rfl,hy,Mp,E9,hd.same oB.sm,oB.ls,oB.de,by omega,CQ,fun m ms H4 hm FT hmg s4=>?_⟩
  rw[m9]at hm hmg
  obtain ⟨⟨Y5,Wi,m1,m2,m3⟩,mO⟩:=hm
  have pU:=oB.same s4
  refine ⟨_,rfl,y,rfl,fun c hc=>(hy.lt c hc).lt,by omega,fun l0 H7 oa B6 s7=>?_⟩
  have el:=hR oa B6
  subst el
  have Wj:=pU.same s7
  refine ⟨_,rfl,?_⟩
  have Nj:eA y ws (os.map bg) (ds.map Dd.e)=(vs',ms.map bg):=by rw[FT, <-m9]
  have Wl:aF H4 H7:=aF.of s7
  refine jg (l:=aD y) (fun k σ H'=> ∃(fs:List Dd) (nv bv:Option V),σ=[some (.str (S y)),some (.ref d),some (.ref e),some (.ref D),cv,wv,some (.ref m),nv,bv]/\fG H H' D fs/\aF H4 H'/\Path y ws (os.map bg) (fs.map Dd.e)/\eA y ws (os.map bg) (fs.map Dd.e)=(vs',(ps.map bg).take k++(ms.map bg).drop k)/\fs.length<=4000+10000*k)
   ⟨ds,none,none,rfl,Wj,Wl,CQ,Nj,by omega⟩ ?_ ?_
  ·rintro k b σ H8 T hk ⟨fs,nv,bv,rfl,Ad,t8,Nk,Iz,Wm⟩ nT
   have Nl:k<(aD y).length:=(List.getElem?_eq_some_iff.mp hk).1
   have lm:ms.length=(aD y).length:=by have:=hmg.lk.1;rwa [List.length_map]at this
   have lp:ps.length=(aD y).length:=by have:=CP.lk.1;rwa [List.length_map]at this
   obtain ⟨o,ho⟩: ∃o,ms[k]? =some o:=⟨_,List.getElem?_eq_getElem (by omega)⟩
   obtain ⟨p,hp⟩: ∃p,ps[k]? =some p:=⟨_,List.getElem?_eq_getElem (by omega)⟩
   have BM:(ms.map bg)[k]? =some (bg o):=by rw[List.getElem?_map,ho];rfl
   have Tx:(ps.map bg)[k]? =some (bg p):=by rw[List.getElem?_map,hp];rfl
   have Nm:=hmg.lk.2 k _ b BM hk
   have KD:=CP.lk.2 k _ b Tx hk
   refine ⟨T,_,rfl,aW.of ae,rfl,_,_,rfl,_,_,rfl,rfl,?_⟩
   have sT:=ah.upd (o:=HO.tup [.int k, .str (S [b])]) nT
   have CS:=Ad.same sT
   have t9:aF H4 (upd H8 T (HO.tup [.int k, .str (S [b])])):=fun c xs x=>sT _ _ (t8 c xs x)
   generalize upd H8 T (HO.tup [.int k, .str (S [b])])=H9 at CS t9 ⊢
   clear sT nT Ad
   refine ⟨_,rfl, .inl ⟨rfl,_,aT.of CS.ls⟩,_,rfl,_,rfl,m,_,1,_,rfl,rfl,aW.of (t9 _ _ m1),rfl,_,rfl,Wi,_,_,_,rfl,rfl,aW.of (t9 _ _ m3),aM (u3 ho),_,rfl,e,_,1,_,rfl,rfl,aW.of (CS.sm _ _ b1),rfl,_,rfl,Tw,_,_,_,rfl,rfl,aW.of (CS.sm _ _ b3),aM (u3 hp),?_⟩
   refine ⟨b,o,p,rfl,(mO o (List.mem_of_getElem? ho)).ts t9,(bO p (List.mem_of_getElem? hp)).same CS.sm,Nm.trans KD.symm,KD.nodup_iff.mpr (gb _ _ _),fun b2 es H5 nb hb Ia EU wI s5=>?_⟩
   obtain ⟨ks,ek,rE⟩:=EU
   have Nn:((ps.map bg).take k++(ms.map bg).drop k)[k]? =some (bg o):=uY (by rw[List.length_map];omega) BM
   obtain ⟨l1,l2⟩:=SP.lift (ws:=vs') hy rE hk Nn
   rw[<-ek]at l1 l2
   rw[uZ (by rw[List.length_map];omega) Tx]at l2
   refine ⟨D,b2,_,_,rfl,rfl,s5 _ _ CS.ls,hb,by rw[bZ,bZ];omega,?_⟩
   rw[kI]
   refine ⟨fs++es,_,_,rfl,CS.ext (b:=b2) Ni s5 Ia,fun c xs x=>?_,?_,?_,by rw[List.length_append];omega⟩
   ·exact (aF.fR (s5 _ _ CS.ls)) c xs (s5 _ _ (t9 c xs x))
   ·rw[List.map_append];exact mi Nk (by rw[Iz];exact l1)
   ·rw[List.map_append,kG,Iz];exact l2
  ·rintro σ H8 ⟨fs,nv,bv,rfl,Ad,t8,Nk,Iz,Wm⟩
   have lm:ms.length=(aD y).length:=by have:=hmg.lk.1;rwa [List.length_map]at this
   have lp:ps.length=(aD y).length:=by have:=CP.lk.1;rwa [List.length_map]at this
   rw[List.take_of_length_le (by rw[List.length_map];omega),List.drop_eq_nil_of_le (by rw[List.length_map];omega),List.append_nil]at Iz
   exact ⟨_,rfl,q D fs H8 Ni Ad.ls Ad.de ⟨Nk,Iz⟩ (by omega) Ad.sm⟩
theorem BA:bQ P w K mg base fk 1 Cy zV ["_law_script","_law_k"] (uI K):=by
 refine T.wZ.fn.ok jB (fun vs H Q E h=>yD h) (fun cS A outer s H vs Q E hr h=>?_)
 refine ⟨_,(af (au (i:=2) jB.nd rfl (Or.inl rfl) (aA br (aA gH ag (pv 1)) ag))
   (af (bH (aE kR (pv 1) (ar (ax K rfl) rfl T.z_len PySem.boot_len (aa (pv 0) ab)) (aP _)) (ai (au (i:=2) jB.nd rfl (Or.inl rfl) (aB (aV K rfl) (pv 0) (pv 1) (fun _ _=>rfl)))) (ai (bH (aE i0 (ar (ax K rfl) rfl T.z_len PySem.boot_len (aa (pv 0) ab)) ag (aP _)) (ai (au (i:=2) jB.nd rfl (Or.inl rfl) (aA br (pv 2) (aA gH (aA fQ (aB (aV K rfl) (pv 0) (aA fQ (pv 1) (ar (ax K rfl) rfl T.z_len PySem.boot_len (aa (pv 0) ab))) (fun _ _=>rfl)) ag) ag)))) a_)))
   (af (au (i:=3) jB.nd rfl (Or.inl rfl) (aA fQ (aA xI (aA br (aA br (aA fQ (pv 2) ag) (aA gH ag (pv 1))) ag) ag) ag))
   (ai (aH (bp (aa (aB (aV K rfl) (bp (aa ag (aa (pv 2) ab))) (bj nh rfl T.z_int boot_int (aa (i4 BS (pv 2) (aA xI ag ag) (aP _)) ab)) (fun _ _=>rfl)) (aa (aA br (aA fQ (pv 3) ag) ag) ab)))))))),?_⟩
 obtain ⟨a,ns,k,rfl,hS,hk,q⟩:=h
 have hp:(0:Int)<2147483629:=by decide
 (repeat (first | refine ⟨_,rfl,?_⟩ | refine ⟨_,_,rfl,rfl,?_⟩ | refine ⟨rfl,?_⟩ | refine And.intro (by first | decide | omega | assumption | exact Nat.le_of_ble_eq_true rfl | exact .inl ⟨by decide,by decide⟩ | exact .inr ⟨by decide,by decide⟩ | exact ⟨by decide,by decide⟩ | exact ⟨by omega,by omega⟩) ?_))
 refine ⟨a,_,rfl, .inl hS,?_⟩
 (repeat (first | refine ⟨_,rfl,?_⟩ | refine ⟨_,_,rfl,rfl,?_⟩ | refine ⟨rfl,?_⟩ | refine And.intro (by first | decide | omega | assumption | exact Nat.le_of_ble_eq_true rfl | exact .inl ⟨by decide,by decide⟩ | exact .inr ⟨by decide,by decide⟩ | exact ⟨by decide,by decide⟩ | exact ⟨by omega,by omega⟩) ?_))
 refine cO (fun e=>?_) (fun e=>?_)
 ·have e':(k:Int)<((ns.map V.int).length:Nat):=of_decide_eq_true e
  rw[List.length_map]at e'
  obtain ⟨z,hz⟩:=uK (ns:=ns) (i:=k) (by omega)
  (repeat (first | refine ⟨_,rfl,?_⟩ | refine ⟨_,_,rfl,rfl,?_⟩ | refine ⟨rfl,?_⟩ | refine And.intro (by first | decide | omega | assumption | exact Nat.le_of_ble_eq_true rfl | exact .inl ⟨by decide,by decide⟩ | exact .inr ⟨by decide,by decide⟩ | exact ⟨by decide,by decide⟩ | exact ⟨by omega,by omega⟩) ?_))
  refine ⟨a,_,k,_,rfl,rfl,hS,aM hz,?_⟩
  (repeat (first | refine ⟨_,rfl,?_⟩ | refine ⟨_,_,rfl,rfl,?_⟩ | refine ⟨rfl,?_⟩ | refine And.intro (by first | decide | omega | assumption | exact Nat.le_of_ble_eq_true rfl | exact .inl ⟨by decide,by decide⟩ | exact .inr ⟨by decide,by decide⟩ | exact ⟨by decide,by decide⟩ | exact ⟨by omega,by omega⟩) ?_))
  refine fun p1 n1=>?_
  (repeat (first | refine ⟨_,rfl,?_⟩ | refine ⟨_,_,rfl,rfl,?_⟩ | refine ⟨rfl,?_⟩ | refine And.intro (by first | decide | omega | assumption | exact Nat.le_of_ble_eq_true rfl | exact .inl ⟨by decide,by decide⟩ | exact .inr ⟨by decide,by decide⟩ | exact ⟨by decide,by decide⟩ | exact ⟨by omega,by omega⟩) ?_))
  refine .inr ⟨_,rfl,?_⟩
  obtain ⟨y,hy⟩:=sJ _ z
  refine ⟨p1,_,_,_,rfl,rfl,aT.of ae,hy,?_⟩
  (repeat (first | refine ⟨_,rfl,?_⟩ | refine ⟨_,_,rfl,rfl,?_⟩ | refine ⟨rfl,?_⟩ | refine And.intro (by first | decide | omega | assumption | exact Nat.le_of_ble_eq_true rfl | exact .inl ⟨by decide,by decide⟩ | exact .inr ⟨by decide,by decide⟩ | exact ⟨by decide,by decide⟩ | exact ⟨by omega,by omega⟩) ?_))
  exact fun p2 n2=>q p2 _ (ah.free (ah.upd n1) n2) ⟨_,_,ae⟩ ((ah.upd n1).trans (ah.upd n2))
 ·(repeat (first | refine ⟨_,rfl,?_⟩ | refine ⟨_,_,rfl,rfl,?_⟩ | refine ⟨rfl,?_⟩ | refine And.intro (by first | decide | omega | assumption | exact Nat.le_of_ble_eq_true rfl | exact .inl ⟨by decide,by decide⟩ | exact .inr ⟨by decide,by decide⟩ | exact ⟨by decide,by decide⟩ | exact ⟨by omega,by omega⟩) ?_))
  refine ⟨a,_,rfl, .inl hS,?_⟩
  (repeat (first | refine ⟨_,rfl,?_⟩ | refine ⟨_,_,rfl,rfl,?_⟩ | refine ⟨rfl,?_⟩ | refine And.intro (by first | decide | omega | assumption | exact Nat.le_of_ble_eq_true rfl | exact .inl ⟨by decide,by decide⟩ | exact .inr ⟨by decide,by decide⟩ | exact ⟨by decide,by decide⟩ | exact ⟨by omega,by omega⟩) ?_))
  refine cO (fun e2=>?_) (fun e2=>?_)
  ·have e':(0:Int)<((ns.map V.int).length:Nat):=of_decide_eq_true e2
   have hl:(0:Int)<(ns.length:Int):=by rw[List.length_map]at e';exact e'
   have m1:0<=(k:Int)%(ns.length:Int):=Int.emod_nonneg _ (by omega)
   have m2:(k:Int)%(ns.length:Int)<(ns.length:Int):=Int.emod_lt_of_pos _ hl
   obtain ⟨z,hz⟩:=uK (ns:=ns) (i:=((k:Int)%(ns.length:Int)).toNat) (by omega)
   have JQ:ny (ns.map V.int) ((k:Int)%((ns.map V.int).length:Nat))=some (V.int z):=by
    have:=aM hz
    rw[Int.toNat_of_nonneg m1]at this
    rw[List.length_map]
    exact this
   (repeat (first | refine ⟨_,rfl,?_⟩ | refine ⟨_,_,rfl,rfl,?_⟩ | refine ⟨rfl,?_⟩ | refine And.intro (by first | decide | omega | assumption | exact Nat.le_of_ble_eq_true rfl | exact .inl ⟨by decide,by decide⟩ | exact .inr ⟨by decide,by decide⟩ | exact ⟨by decide,by decide⟩ | exact ⟨by omega,by omega⟩) ?_))
   refine ⟨a,_,rfl, .inl hS,?_⟩
   (repeat (first | refine ⟨_,rfl,?_⟩ | refine ⟨_,_,rfl,rfl,?_⟩ | refine ⟨rfl,?_⟩ | refine And.intro (by first | decide | omega | assumption | exact Nat.le_of_ble_eq_true rfl | exact .inl ⟨by decide,by decide⟩ | exact .inr ⟨by decide,by decide⟩ | exact ⟨by decide,by decide⟩ | exact ⟨by omega,by omega⟩) ?_))
   refine ⟨a,_,_,_,rfl,rfl,hS,JQ,?_⟩
   (repeat (first | refine ⟨_,rfl,?_⟩ | refine ⟨_,_,rfl,rfl,?_⟩ | refine ⟨rfl,?_⟩ | refine And.intro (by first | decide | omega | assumption | exact Nat.le_of_ble_eq_true rfl | exact .inl ⟨by decide,by decide⟩ | exact .inr ⟨by decide,by decide⟩ | exact ⟨by decide,by decide⟩ | exact ⟨by omega,by omega⟩) ?_))
   refine fun p1 n1=>?_
   (repeat (first | refine ⟨_,rfl,?_⟩ | refine ⟨_,_,rfl,rfl,?_⟩ | refine ⟨rfl,?_⟩ | refine And.intro (by first | decide | omega | assumption | exact Nat.le_of_ble_eq_true rfl | exact .inl ⟨by decide,by decide⟩ | exact .inr ⟨by decide,by decide⟩ | exact ⟨by decide,by decide⟩ | exact ⟨by omega,by omega⟩) ?_))
   refine .inr ⟨_,rfl,?_⟩
   obtain ⟨y,hy⟩:=sJ _ _
   refine ⟨p1,_,_,_,rfl,rfl,aT.of ae,hy,?_⟩
   (repeat (first | refine ⟨_,rfl,?_⟩ | refine ⟨_,_,rfl,rfl,?_⟩ | refine ⟨rfl,?_⟩ | refine And.intro (by first | decide | omega | assumption | exact Nat.le_of_ble_eq_true rfl | exact .inl ⟨by decide,by decide⟩ | exact .inr ⟨by decide,by decide⟩ | exact ⟨by decide,by decide⟩ | exact ⟨by omega,by omega⟩) ?_))
   exact fun p2 n2=>q p2 _ (ah.free (ah.upd n1) n2) ⟨_,_,ae⟩ ((ah.upd n1).trans (ah.upd n2))
  ·(repeat (first | refine ⟨_,rfl,?_⟩ | refine ⟨_,_,rfl,rfl,?_⟩ | refine ⟨rfl,?_⟩ | refine And.intro (by first | decide | omega | assumption | exact Nat.le_of_ble_eq_true rfl | exact .inl ⟨by decide,by decide⟩ | exact .inr ⟨by decide,by decide⟩ | exact ⟨by decide,by decide⟩ | exact ⟨by omega,by omega⟩) ?_))
   refine fun p1 n1=>?_
   (repeat (first | refine ⟨_,rfl,?_⟩ | refine ⟨_,_,rfl,rfl,?_⟩ | refine ⟨rfl,?_⟩ | refine And.intro (by first | decide | omega | assumption | exact Nat.le_of_ble_eq_true rfl | exact .inl ⟨by decide,by decide⟩ | exact .inr ⟨by decide,by decide⟩ | exact ⟨by decide,by decide⟩ | exact ⟨by omega,by omega⟩) ?_))
   refine .inr ⟨_,rfl,?_⟩
   obtain ⟨y,hy⟩:=sJ _ _
   refine ⟨p1,_,_,_,rfl,rfl,aT.of ae,hy,?_⟩
   (repeat (first | refine ⟨_,rfl,?_⟩ | refine ⟨_,_,rfl,rfl,?_⟩ | refine ⟨rfl,?_⟩ | refine And.intro (by first | decide | omega | assumption | exact Nat.le_of_ble_eq_true rfl | exact .inl ⟨by decide,by decide⟩ | exact .inr ⟨by decide,by decide⟩ | exact ⟨by decide,by decide⟩ | exact ⟨by omega,by omega⟩) ?_))
   exact fun p2 n2=>q p2 _ (ah.free (ah.upd n1) n2) ⟨_,_,ae⟩ ((ah.upd n1).trans (ah.upd n2))
theorem zG:bQ P w K mg base fk 2 CB Kj ["_law_box_here","_law_few","_law_top"] (qG K):=by
 have bC:=gZ (P:=P) (w:=w) (base:=base) T
 have fO:=j7 (P:=P) (w:=w) (base:=base) T
 refine T.EI.fn.ok dR (fun vs H Q E h=>wx h) (fun cS A outer s H vs Q E hr h=>?_)
 refine ⟨_,(af (au (i:=3) dR.nd rfl (Or.inl rfl) (bj (iG rfl) rfl T.z_list boot_list (aa (dZ [97,98,99,100,101,102,103,104,105,106,107,108,109,110,111,112,113,114,115,116,117,118,119,120,121,122] (by decide+kernel)) ab)))
   (af (au (i:=4) dR.nd rfl (Or.inl rfl) (bp ab))
   (af (bw PassesOwn.never rfl (eE rfl T.z_range (aa (aA br (pv 1) (ao bC (hr.mono (by decide)) rfl T.dU.mg T.dU.fn.kp T.dU.bd .nil aC (aa (pv 0) (aa (aA br (aA cK (pv 2) (pv 1)) ag) ab)))) ab)) (aw (i:=5) dR.nd rfl (Or.inl rfl)) (af (au (i:=6) dR.nd rfl (Or.inl rfl) (bf K rfl PySem.F.plainAttrs_list PySem.F.slot_list_pop PySem.F.type_list_pop i7 (pv 3) (aa (ao bC (hr.mono (by decide)) rfl T.dU.mg T.dU.fn.kp T.dU.bd .nil aC (aa (pv 0) (aa (ar (ax K rfl) rfl T.z_len PySem.boot_len (aa (pv 3) ab)) ab))) ab)))
   (ai (au (i:=4) dR.nd rfl (Or.inl rfl) (aA iF (pv 4) (bp (aa (pv 6) (aa (ao fO (hr.mono (by decide)) rfl T.rJ.mg T.rJ.fn.kp T.rJ.bd .nil aC (aa (pv 6) ab)) ab))))))))
   (af (au (i:=7) dR.nd rfl (Or.inl rfl) (dZ [] (by decide+kernel)))
   (af (eF PassesOwn.never (aE i0 (ar (ax K rfl) rfl T.z_len PySem.boot_len (aa (pv 4) ab)) ag (aP _)) (ai (au (i:=7) dR.nd rfl (Or.inl rfl) (aA eh (pv 7) (bf K rfl PySem.F.plainAttrs_list PySem.F.slot_list_pop PySem.F.type_list_pop i7 (pv 4) (aa (ao bC (hr.mono (by decide)) rfl T.dU.mg T.dU.fn.kp T.dU.bd .nil aC (aa (pv 0) (aa (ar (ax K rfl) rfl T.z_len PySem.boot_len (aa (pv 4) ab)) ab))) ab))))))
   (ai (aH (pv 7)))))))),?_⟩
 obtain ⟨b,jQ,top,rfl,hb,h1,h2,h3,q⟩:=h
 have hs:(100000:Nat)<sizeLine:=by decide
 (repeat (first | refine ⟨_,rfl,?_⟩ | refine ⟨_,_,rfl,rfl,?_⟩ | refine ⟨rfl,?_⟩ | refine And.intro (by first | decide | omega | assumption | exact Nat.le_of_ble_eq_true rfl | exact .inl ⟨by decide,by decide⟩ | exact .inr ⟨by decide,by decide⟩ | exact ⟨by decide,by decide⟩ | exact ⟨by omega,by omega⟩) ?_))
 intro p1 n1
 (repeat (first | refine ⟨_,rfl,?_⟩ | refine ⟨_,_,rfl,rfl,?_⟩ | refine ⟨rfl,?_⟩ | refine And.intro (by first | decide | omega | assumption | exact Nat.le_of_ble_eq_true rfl | exact .inl ⟨by decide,by decide⟩ | exact .inr ⟨by decide,by decide⟩ | exact ⟨by decide,by decide⟩ | exact ⟨by omega,by omega⟩) ?_))
 intro p2 n2
 have s1:ah H (upd (upd H p1 (.lst (bY bb))) p2 (.lst [])):=(ah.upd n1).trans (ah.upd n2)
 have rA:p1≠b:=hb.ne n1
 have z9:H p2=none:=ah.free (ah.upd n1) n2
 have w_:p2≠b:=hb.ne z9
 have xy:p1≠p2:=fun z=>by rw[<-z,ae]at n2;cases n2
 (repeat (first | refine ⟨_,rfl,?_⟩ | refine ⟨_,_,rfl,rfl,?_⟩ | refine ⟨rfl,?_⟩ | refine And.intro (by first | decide | omega | assumption | exact Nat.le_of_ble_eq_true rfl | exact .inl ⟨by decide,by decide⟩ | exact .inr ⟨by decide,by decide⟩ | exact ⟨by decide,by decide⟩ | exact ⟨by omega,by omega⟩) ?_))
 refine ⟨b,_,rfl,hb.same s1,by omega,by omega,fun n H1 hn Bp s2=>?_⟩
 (repeat (first | refine ⟨_,rfl,?_⟩ | refine ⟨_,_,rfl,rfl,?_⟩ | refine ⟨rfl,?_⟩ | refine And.intro (by first | decide | omega | assumption | exact Nat.le_of_ble_eq_true rfl | exact .inl ⟨by decide,by decide⟩ | exact .inr ⟨by decide,by decide⟩ | exact ⟨by decide,by decide⟩ | exact ⟨by omega,by omega⟩) ?_))
 refine fu (fun i σ H'=> ∃(pe:Addr) (L E:List Nat) (kv lv:Option V),σ=[some (.ref b),some (.int jQ),some (.int top),some (.ref p1),some (.ref pe),kv,lv,none]/\Ei i L E/\H' p1=some (.lst (bY L))/\H' pe=some (.lst (bY E))/\p1≠pe/\H pe=none/\bK H' b/\aI b H H')
  ⟨p2,bb,[],none,none,rfl,Ei.start,s2 _ _ (by rw[aq xy,ae];rfl) rA,s2 _ _ ae w_,xy,z9,Bp,(aI.of s1).trans s2⟩ ?_ ?_
 ·rintro i σ H2 hi ⟨pe,L,E,kv,lv,rfl,yw,g9,jC,Tz,KG,iI,s3⟩
  have v8:i<26:=by simp at hi;omega
  have CK:=yw.ll
  have wI:=yw.el
  refine ⟨_,rfl, .inl ⟨rfl,_,aT.of g9⟩,?_⟩
  (repeat (first | refine ⟨_,rfl,?_⟩ | refine ⟨_,_,rfl,rfl,?_⟩ | refine ⟨rfl,?_⟩ | refine And.intro (by first | decide | omega | assumption | exact Nat.le_of_ble_eq_true rfl | exact .inl ⟨by decide,by decide⟩ | exact .inr ⟨by decide,by decide⟩ | exact ⟨by decide,by decide⟩ | exact ⟨by omega,by omega⟩) ?_))
  refine ⟨p1,_,rfl, .inl (aT.of g9),b,_,rfl,iI,by rw[aQ];omega,by rw[aQ];omega,fun r H3 MI mJ s4=>?_⟩
  rw[aQ]at MI
  have z_:r<L.length:=by omega
  have Np:=s4 _ _ g9 rA
  have Nq:=s4 _ _ jC (hb.ne KG)
  refine ⟨p1,_,_,r,_,rfl,rfl,Np,by omega,by omega,by rw[aQ,seqIndex_of (by omega) (by omega),Int.toNat_natCast],yE z_,?_⟩
  rw[nN]
  have cN:Lt L[r]:= .inl (yw.sm _ (List.getElem_mem z_))
  have Bl:(upd H3 p1 (.lst (bY (L.eraseIdx r)))) pe=some (.lst (bY E)):=by rw[aq (Ne.symm Tz)];exact Nq
  (repeat (first | refine ⟨_,rfl,?_⟩ | refine ⟨_,_,rfl,rfl,?_⟩ | refine ⟨rfl,?_⟩ | refine And.intro (by first | decide | omega | assumption | exact Nat.le_of_ble_eq_true rfl | exact .inl ⟨by decide,by decide⟩ | exact .inr ⟨by decide,by decide⟩ | exact ⟨by decide,by decide⟩ | exact ⟨by omega,by omega⟩) ?_))
  intro p3 n3
  have e3:pe≠p3:=ak Bl n3
  refine ⟨pe,p3,_,_,rfl,rfl,by rw[aq e3];exact Bl,ae,by rw[aQ];show E.length+2<=_;omega,fun p4 n4=>?_⟩
  have TB:H p3=none:=((s3.trans s4).du n1).none n3 (mJ.du rA |>.ne n3)
  have Nr:=(mJ.du (o:= .lst (bY (L.eraseIdx r))) rA).du (o:= .lst [V.str (S [L[r]]),V.str (S [aU L[r]])]) (hb.ne TB)
  have TC:=((s3.trans s4).du (o:= .lst (bY (L.eraseIdx r))) n1).du (o:= .lst [V.str (S [L[r]]),V.str (S [aU L[r]])]) TB
  have Nt:H p4=none:=TC.none n4 (Nr.ne n4)
  have TF:p1≠p4:=fun z=>by rw[<-z]at n4;by_cases z3:p1=p3<;>simp[upd,z3]at n4
  have Wn:p1≠p3:=fun z=>by rw[<-z,ae]at n3;cases n3
  refine ⟨p4,L.eraseIdx r,E++[L[r],aU L[r]],_,_,rfl,yw.turn v8 z_,by rw[aq TF,aq Wn,ae],?_,TF,Nt,Nr.du (hb.ne Nt),TC.du Nt⟩
  rw[ae, <-A7]
  rfl
 ·rintro σ H2 ⟨pe,L,E,kv,lv,rfl,yw,g9,jC,Tz,KG,iI,s3⟩
  have wI:=yw.el
  have xn:=hb.ne KG
  (repeat (first | refine ⟨_,rfl,?_⟩ | refine ⟨_,_,rfl,rfl,?_⟩ | refine ⟨rfl,?_⟩ | refine And.intro (by first | decide | omega | assumption | exact Nat.le_of_ble_eq_true rfl | exact .inl ⟨by decide,by decide⟩ | exact .inr ⟨by decide,by decide⟩ | exact ⟨by decide,by decide⟩ | exact ⟨by omega,by omega⟩) ?_))
  refine ⟨fun m σ H'=> ∃F E':List Nat,σ=[some (.ref b),some (.int jQ),some (.int top),some (.ref p1),some (.ref pe),kv,lv,some (.str (S F))]/\m=E'.length/\(F++E').Perm E/\H' pe=some (.lst (bY E'))/\bK H' b/\aI b H H',⟨_,[],E,rfl,rfl,List.Perm.refl _,jC,iI,s3⟩,?_⟩
  rintro m σ H3 ⟨F,E',rfl,rfl,hV,BB,mJ,s4⟩
  have hlen:=hV.length_eq
  rw[List.length_append]at hlen
  have Se:(jQ:Int)+n<=9:=by omega
  have Wo:E.length<=100:=by rw[wI];omega
  (repeat (first | refine ⟨_,rfl,?_⟩ | refine ⟨_,_,rfl,rfl,?_⟩ | refine ⟨rfl,?_⟩ | refine And.intro (by first | decide | omega | assumption | exact Nat.le_of_ble_eq_true rfl | exact .inl ⟨by decide,by decide⟩ | exact .inr ⟨by decide,by decide⟩ | exact ⟨by decide,by decide⟩ | exact ⟨by omega,by omega⟩) ?_))
  refine ⟨pe,_,rfl, .inl (aT.of BB),_,_,rfl,rfl,_,rfl,cO (fun e=>?_) (fun e=>?_)⟩
  ·have e':(0:Int)<((bY E').length:Nat):=of_decide_eq_true e
   rw[aQ]at e'
   refine ⟨_,rfl,_,rfl, .inl ⟨rfl,_,aT.of BB⟩,?_⟩
   (repeat (first | refine ⟨_,rfl,?_⟩ | refine ⟨_,_,rfl,rfl,?_⟩ | refine ⟨rfl,?_⟩ | refine And.intro (by first | decide | omega | assumption | exact Nat.le_of_ble_eq_true rfl | exact .inl ⟨by decide,by decide⟩ | exact .inr ⟨by decide,by decide⟩ | exact ⟨by decide,by decide⟩ | exact ⟨by omega,by omega⟩) ?_))
   refine ⟨pe,_,rfl, .inl (aT.of BB),b,_,rfl,mJ,by rw[aQ];omega,by rw[aQ];omega,fun r H4 z_ xa s5=>?_⟩
   rw[aQ]at z_
   have u9:r<E'.length:=by omega
   refine ⟨pe,_,_,r,_,rfl,rfl,s5 _ _ BB xn,by omega,by omega,by rw[aQ,seqIndex_of (by omega) (by omega),Int.toNat_natCast],yE u9,?_⟩
   rw[nN]
   have hp:=eU (List.getElem?_eq_getElem u9)
   have ig:=hp.length_eq
   rw[List.length_cons]at ig
   refine ⟨F,_,rfl,rfl,by show F.length+1<=_;omega,(E'.eraseIdx r).length,by omega,F++[E'[r]],E'.eraseIdx r,rfl,rfl,?_,ae,xa.du xn,(s4.trans s5).du KG⟩
   rw[List.append_assoc]
   exact (List.Perm.append_left F hp).trans hV
  ·have e':E'=[]:=by
    cases E' with
    | nil=>rfl
    | cons c r=>exact absurd (decide_eq_true (by rw[aQ];show (0:Int)<((r.length+1:Nat):Int);omega)) e
   subst e'
   rw[List.append_nil]at hV
   have oS:=hV.length_eq
   refine ⟨_,rfl,q F H3 (yw.yd.perm hV.symm) ?_ ?_ mJ s4⟩
   ·rw[oS,wI];omega
   ·rw[oS,wI];omega
theorem zH:bQ P w K mg base fk 2 CI Et ["_law_box_here","_law_yard_here","_law_drawing_here"] (q_ K):=by
 have bC:=gZ (P:=P) (w:=w) (base:=base) T
 have mE:=oD (P:=P) (w:=w) (base:=base) T
 have fO:=j7 (P:=P) (w:=w) (base:=base) T
 refine T.EN.fn.ok cg (fun vs H Q E h=>wV h) (fun cS A outer s H vs Q E hr h=>?_)
 refine ⟨_,(af (gE (pv 2) (cm (n:=2) K rfl rfl (aN (aw (i:=3) cg.nd rfl (Or.inl rfl)) (aN (aw (i:=4) cg.nd rfl (Or.inr rfl)) cj))))
   (af (au (i:=5) cg.nd rfl (Or.inl rfl) (ao bC (hr.mono (by decide)) rfl T.dU.mg T.dU.fn.kp T.dU.bd .nil aC (aa (pv 0) (aa ag ab))))
   (af (au (i:=6) cg.nd rfl (Or.inl rfl) (ao mE (hr.mono (by decide)) rfl T.zX.mg T.zX.fn.kp T.zX.bd .nil aC (aa (pv 1) ab)))
   (af (au (i:=7) cg.nd rfl (Or.inl rfl) (ao bC (hr.mono (by decide)) rfl T.dU.mg T.dU.fn.kp T.dU.bd .nil aC (aa (pv 0) (aa (ar (ng rfl) rfl T.z_max boot_max (aa ag (aa (ar (ax K rfl) rfl T.z_len PySem.boot_len (aa (pv 3) ab)) ab))) ab))))
   (af (au (i:=8) cg.nd rfl (Or.inl rfl) (bp ab))
   (af (bw PassesOwn.never rfl (fA K rfl rfl T.z_enumerate (aa (pv 3) ab)) (cm (n:=2) K rfl rfl (aN (aw (i:=9) cg.nd rfl (Or.inr rfl)) (aN (aw (i:=10) cg.nd rfl (Or.inr rfl)) cj))) (ai (ba (bf K rfl PySem.F.plainAttrs_list PySem.F.slot_list_extend PySem.F.type_list_extend g8 (pv 8) (aa (di ["_law_i","_law_d","_law_word_here"] [none,some 9,some 10] (eE rfl T.z_range (aa (aA cK (ar aX rfl T.z_len PySem.boot_len (aa (pv 10) ab)) ag) ab)) ⟨⟨rfl,rfl,by first | exact .inl rfl | exact .inr rfl⟩,⟨⟨rfl,rfl,by first | exact .inl rfl | exact .inr rfl⟩,trivial⟩⟩ (fun _ _ _ _=>(aw (i:=0) (by decide+kernel:List.Nodup (["_law_i","_law_d","_law_word_here"]:List Str)) rfl (Or.inl rfl))) (fun _ _ _ _=>(jN (aE eQ (aB jO (pv 2) (pv 0) (fun _ _=>rfl)) (ao fO (hr.mono (by decide)) rfl T.rJ.mg T.rJ.fn.kp T.rJ.bd .nil aC (aa (aB jO (pv 2) (aA br (pv 0) ag) (fun _ _=>rfl)) ab)) (aP _)))) (fun _ _ _ _=>(bI (aa (pv 1) (aa (pv 0) ab))))) ab)))))
   (af (bH (PW.pt (gC (aE oX (pv 5) ag (aP _)) (g7 (aE (lB K rfl hr) (pv 8) (bp ab) (aP _))))) (ai (aH (aA (yg K rfl) (bI (aa (dZ [111,117,116] (by decide+kernel)) ab)) (aB (aV K rfl) (pv 8) (ao bC (hr.mono (by decide)) rfl T.dU.mg T.dU.fn.kp T.dU.bd .nil aC (aa (pv 0) (aa (ar (ax K rfl) rfl T.z_len PySem.boot_len (aa (pv 8) ab)) ab))) (fun _ _=>rfl))))) a_)
   (af (bH (PW.pt (gC (aE oX (pv 5) ag (aP _)) (gC (aE i0 (ar (ax K rfl) rfl T.z_len PySem.boot_len (aa (pv 3) ab)) ag (aP _)) (gC (aE kR (ar aX rfl T.z_len PySem.boot_len (aa (aB (aG K rfl) (pv 3) (pv 7) (fun _ _=>rfl)) ab)) ag (aP _)) (g7 (aE kR (ar aX rfl T.z_len PySem.boot_len (aa (bf K rfl PySem.F.plainAttrs_str PySem.F.slot_str_join PySem.F.type_str_join (yr K rfl) (dZ [] (by decide+kernel)) (aa (pv 3) ab)) ab)) ag (aP _))))))) (af (au (i:=11) cg.nd rfl (Or.inr rfl) (aB jO (pv 1) (ao bC (hr.mono (by decide)) rfl T.dU.mg T.dU.fn.kp T.dU.bd .nil aC (aa (pv 0) (aa (ar aX rfl T.z_len PySem.boot_len (aa (pv 1) ab)) ab))) (fun _ _=>rfl)))
   (af (au (i:=12) cg.nd rfl (Or.inl rfl) (aB (aV K rfl) (di ["_law_j","_law_name","_law_x"] [none,none,some 11] (qp K rfl rfl T.z_enumerate (aa (pv 6) ab)) ⟨⟨rfl,rfl,by first | exact .inl rfl | exact .inr rfl⟩,trivial⟩ (fun _ _ _ _=>(cm (n:=2) K rfl rfl (aN (aw (i:=0) (by decide+kernel:List.Nodup (["_law_j","_law_name","_law_x"]:List Str)) rfl (Or.inl rfl)) (aN (aw (i:=1) (by decide+kernel:List.Nodup (["_law_j","_law_name","_law_x"]:List Str)) rfl (Or.inl rfl)) cj)))) (fun _ _ _ _=>(jN (aE (r9 K rfl) (pv 2) (bI (aa (pv 1) (aa (ao fO (hr.mono (by decide)) rfl T.rJ.mg T.rJ.fn.kp T.rJ.bd .nil aC (aa (pv 1) ab)) ab))) (by with_unfolding_all rfl)))) (fun _ _ _ _=>(pv 0))) ag (fun _ _=>rfl)))
   (ai (aH (bI (aa (dZ [105,110] (by decide+kernel)) (aa (pv 7) (aa (ao bC (hr.mono (by decide)) rfl T.dU.mg T.dU.fn.kp T.dU.bd .nil aC (aa (pv 0) (aa (aA br (ar aX rfl T.z_len PySem.boot_len (aa (aB (aG K rfl) (pv 3) (pv 7) (fun _ _=>rfl)) ab)) ag) ab))) (aa (pv 11) (aa (ao bC (hr.mono (by decide)) rfl T.dU.mg T.dU.fn.kp T.dU.bd .nil aC (aa (pv 0) (aa (aA br (ar (ax K rfl) rfl T.z_len PySem.boot_len (aa (aB (aG K rfl) (pv 4) (pv 12) (fun _ _=>rfl)) ab)) ag) ab))) ab)))))))))) a_)
   (af (lz (i:=13) ["_law_k","_law_orders"] [none,some 4] cg.nd rfl (Or.inl rfl) (eE rfl T.z_range (aa (ar (ax K rfl) rfl T.z_len PySem.boot_len (aa (pv 6) ab)) ab)) ⟨⟨rfl,rfl,by first | exact .inl rfl | exact .inr rfl⟩,trivial⟩ (fun _ _ _ _=>(aw (i:=0) (by decide+kernel:List.Nodup (["_law_k","_law_orders"]:List Str)) rfl (Or.inl rfl))) (fun _ _ _ _=>(jN (aE i0 (ar (ax K rfl) rfl T.z_len PySem.boot_len (aa (aB (aG K rfl) (pv 1) (pv 0) (fun _ _=>rfl)) ab)) ag (aP _)))) (fun _ _ _ _=>(pv 0)))
   (af (bH (PW.pt (p7 (PW.pt (gC (aE oX (pv 5) ag (aP _)) (g7 (aE i0 (ar (ax K rfl) rfl T.z_len PySem.boot_len (aa (pv 3) ab)) ag (aP _))))) (kM (aE (yb K rfl hr) (pv 13) (bp ab) (aP _))))) (ai (aH (bI (aa (dZ [116,117,114,110] (by decide+kernel)) (aa (pv 7) ab))))) a_)
   (af (au (i:=12) cg.nd rfl (Or.inl rfl) (aB (aV K rfl) (pv 13) (ao bC (hr.mono (by decide)) rfl T.dU.mg T.dU.fn.kp T.dU.bd .nil aC (aa (pv 0) (aa (ar (ax K rfl) rfl T.z_len PySem.boot_len (aa (pv 13) ab)) ab))) (fun _ _=>rfl)))
   (ai (aH (bI (aa (dZ [115,119,97,112] (by decide+kernel)) (aa (aB (aV K rfl) (pv 6) (pv 12) (fun _ _=>rfl)) (aa (ao bC (hr.mono (by decide)) rfl T.dU.mg T.dU.fn.kp T.dU.bd .nil aC (aa (pv 0) (aa (aA cK (ar (ax K rfl) rfl T.z_len PySem.boot_len (aa (aB (aG K rfl) (pv 4) (pv 12) (fun _ _=>rfl)) ab)) ag) ab))) ab))))))))))))))))),?_⟩
 obtain ⟨b,y,dr,ws,os,rfl,hb,hy,Nu,hz,Nv,hg,hd,q⟩:=h
 have hs:(100000:Nat)<sizeLine:=by decide
 obtain ⟨⟨wt,ot,d1,d2,d3⟩,dO⟩:=id hd
 have Kv:=hg.jQ
 have xU:=hg.gX
 have Cb:=eY hy
 have xA:os.length=(aD y).length:=by have:=hg.ln;rwa [List.length_map]at this
 have Y6:1<=ws.length:=by cases ws with | nil=>exact absurd rfl Nv | cons _ _=>simp
 refine ⟨_,rfl,dr,_,rfl,aW.of d1,rfl,_,_,rfl,_,_,rfl,rfl,?_⟩
 refine ⟨_,rfl,b,4,rfl,hb,by decide,by decide,fun fm H1 Y7 Bp s1=>?_⟩
 refine ⟨_,rfl,y,rfl,by omega,fun nm l2 H2 n2 TH oS Mx s2=>?_⟩
 rw[lP hy.lt]at oS
 have el:=hR oS Mx
 subst el
 have iI:=Bp.same s2
 have Nw:aI b H H2:=s1.after s2
 have TJ:aF H H2:=aF.box hb Nw
 refine ⟨_,rfl,_,rfl,wt,_,rfl, .inr (aW.of (TJ _ _ d2)),_,_,rfl,?_⟩
 have Nn:(if ((bX ws).length:Int)>1 then ((bX ws).length:Int) else 1)=((ws.length:Nat):Int):=by rw[aS];split<;>omega
 rw[Nn]
 refine ⟨b,_,rfl,iI,by omega,by omega,fun c H3 hc mJ s3=>?_⟩
 have FU:=Nw.trans s3
 have Ny:nm≠b:=Bp.ne n2
 have E_:=s3 _ _ TH Ny
 (repeat (first | refine ⟨_,rfl,?_⟩ | refine ⟨_,_,rfl,rfl,?_⟩ | refine ⟨_,_,_,rfl,rfl,by first | assumption | omega,by assumption,?_⟩ | refine ⟨rfl,?_⟩ | refine And.intro (by first | decide | omega | assumption | exact Nat.le_of_ble_eq_true rfl | exact .inl ⟨by decide,by decide⟩ | exact .inr ⟨by decide,by decide⟩ | exact ⟨by decide,by decide⟩ | exact ⟨by omega,by omega⟩) ?_))
 intro p4 n4
 have b4:p4≠b:=mJ.ne n4
 have Fb:=(ah.upd (o:=HO.lst []) n4) _ _ E_
 have xa:=mJ.same (ah.upd (o:=HO.lst []) n4)
 have E3:=FU.after (ah.upd (o:=HO.lst []) n4)
 have Bo:upd H3 p4 (HO.lst []) p4=some (HO.lst []):=ae
 have Wq:p4≠nm:=Ne.symm (ak E_ n4)
 have TK:H p4=none:=FU.none n4 b4
 generalize upd H3 p4 (HO.lst [])=H4 at Fb xa E3 Bo ⊢
 have Nz:aF H H4:=aF.box hb E3
 have NA:=Nz _ _ d2
 have Wr:=Nz _ _ d3
 refine ⟨_,rfl,wt,rfl,⟨_,aW.of NA⟩,?_⟩
 refine eG (K:=K) (a:=wt) (xs:=bX ws) (fun j σ H'=> ∃(ps:List Pr) (dv wv:Option V),σ=[some (.ref b),some (.str (S y)),some (.ref dr),some (.ref wt),some (.ref ot),some (.int fm),some (.ref nm),some (.int c),some (.ref p4),dv,wv,none,none,none]/\H' p4=some (.lst (bR ps))/\(∀p∈ps,cU H' p/\Cc ws p)/\ps.length<=12*j/\aI p4 H4 H')
  ⟨[],none,none,rfl,Bo,fun _ h=>absurd h List.not_mem_nil,Nat.zero_le _,aI.refl _ _⟩ (fun j σ H' _ ⟨_,_,_,_,_,_,_,s⟩=>aW.of (s _ _ NA (ak d2 TK))) ?_ ?_
 ·rintro j x σ H5 T Bn ⟨ps,dv,wv,rfl,By,kl,ig,s5⟩ nT
  have hj:j<ws.length:=by
   have:=(List.getElem?_eq_some_iff.mp Bn).1
   rwa [aS]at this
  rw[iL hj]at Bn
  cases Bn
  have w5:ws[j]? =some ws[j]:=List.getElem?_eq_getElem hj
  obtain ⟨tP,rq⟩:=xU _ (List.getElem_mem hj)
  generalize ws[j]=w at w5 tP rq ⊢
  have Fc:w.length<=sizeLine:=by omega
  refine ⟨T,_,rfl,aW.of ae,rfl,_,_,rfl,_,_,rfl,rfl,?_⟩
  have sT:=ah.upd (o:=HO.tup [.int j, .str (S w)]) nT
  have Fd:=sT _ _ By
  generalize upd H5 T (HO.tup [.int j, .str (S w)])=H6 at sT Fd ⊢
  refine ⟨_,rfl, .inl ⟨rfl,_,aT.of Fd⟩,?_⟩
  refine ⟨_,rfl,w,rfl,Fc,_,_,rfl,rfl,_,rfl,by omega,by omega,?_⟩
  refine lx (fun m acc H'=>ah H6 H'/\ ∃vs:List Pr,acc=bR vs/\(∀p∈vs,cU H' p/\Cc ws p)/\vs.length<=m) (by omega) ⟨ah.refl _,[],rfl,fun _ h=>absurd h List.not_mem_nil,Nat.le_refl _⟩ ?_ ?_
  ·rintro m acc H7 Nx hm gA ⟨s7,vs,rfl,zr,MA⟩ nx
   have NB:m+1<w.length:=by omega
   rw[Int.zero_add]
   have g0:ny w ((m:Nat):Int)=some w[m]:=aM (List.getElem?_eq_getElem (by omega))
   have g1:ny w ((m:Nat)+1:Int)=some w[m+1]:=by
    have:((m:Nat):Int)+1=((m+1:Nat):Int):=by omega
    rw[this];exact aM (List.getElem?_eq_getElem NB)
   have MX:Lt w[m+1]:=hy.lt _ (tP _ (List.getElem_mem NB))
   refine ⟨⟨rfl,rfl,trivial⟩,?_⟩
   refine ⟨_,rfl,_,rfl,w,_,_,rfl,rfl,Fc,g0,_,rfl,_,rfl,_,_,rfl,rfl,w,_,_,rfl,rfl,Fc,g1,_,rfl,MX,[w[m]],[aU w[m+1]],rfl,rfl,_,rfl,cO (fun z=>?_) (fun z=>?_)⟩
   ·have ez:w[m]=aU w[m+1]:=by simpa using of_decide_eq_true z
    refine ⟨_,rfl,_,rfl,by show 2<=sizeLine;decide,fun t nt=>?_⟩
    refine nx _ _ (by simpa using gA) ⟨s7.trans (ah.upd nt),vs++[⟨t,j,m⟩],gU vs ⟨t,j,m⟩,fun p hp=>?_,by rw[List.length_append];show vs.length+1<=_;omega⟩
    rcases List.mem_append.mp hp with g | g
    ·exact ⟨(zr p g).1.same (ah.upd nt),(zr p g).2⟩
    ·have e2:=List.mem_singleton.mp g
     subst e2
     refine ⟨⟨ae,by show j<1000;omega,by show m<1000;omega⟩,hj,w[m],?_,?_⟩
     ·show (ws.getD j [])[m]? =_
      rw[bB w5];exact List.getElem?_eq_getElem (by omega)
     ·show (ws.getD j [])[m+1]? =_
      rw[bB w5,ez,bo MX];exact List.getElem?_eq_getElem NB
   ·exact nx _ _ (Nat.le_succ_of_le gA) ⟨s7,vs,rfl,zr,by omega⟩
  ·rintro acc H7 D gA ⟨s7,vs,rfl,zr,MA⟩ hD
   have CO:=s7 _ _ Fd
   refine ⟨p4,D,_,_,rfl,rfl,(ah.upd hD) _ _ CO,ae,by rw[aZ,aZ];omega,?_⟩
   rw[uO]
   have BC:ah H5 (upd H7 D (.lst (bR vs))):=(sT.trans s7).trans (ah.upd hD)
   have IA:=(ah.upd (o:= .lst (bR vs)) hD) _ _ CO
   refine ⟨ps++vs,_,_,rfl,ae,fun p hp=>?_,by rw[List.length_append];omega,fun a o ea na=>by rw[aq na];exact BC _ _ (s5 a o ea na)⟩
   rcases List.mem_append.mp hp with g | g
   ·exact ⟨((kl p g).1.same BC).ts (aF.fR IA),(kl p g).2⟩
   ·exact ⟨((zr p g).1.same (ah.upd hD)).ts (aF.fR IA),(zr p g).2⟩
 ·rintro σ H5 ⟨ps,dv,wv,rfl,By,kl,ig,s5⟩
  rw[aS]at ig
  have Fe:aI b H H5:=fun a o ea na=>s5 _ _ (E3 a o ea na) (ak ea TK)
  have KH:bK H5 b:=by obtain ⟨u,v,e⟩:=xa;exact ⟨u,v,s5 _ _ e (Ne.symm b4)⟩
  have KI:aF H H5:=aF.box hb Fe
  have IB:=s5 _ _ Fb (Ne.symm Wq)
  have Es:=KI _ _ d2
  have Et:=KI _ _ d3
  have TL: ∀o∈os,fZ H5 o:=fun o ho=>(dO o ho).ts KI
  clear s5 Fb xa E3 Bo Nz NA Wr E_ TH FU Nw TJ iI s2 s3 mJ Bp s1 n2 n4
  apply HK (H5:=H5)
  ·intro key
   refine ⟨_,rfl,_,_,rfl,rfl,_,rfl,cO (fun z=>?_) (fun z=>?_)⟩
   ·refine ⟨_,rfl,Nat.zero_le _,fun p6 n6=>?_⟩
    have ly:PyData.canLayAll0 ((ps.map Pr.pair).map lS)=true:=(hU (k:=0) fun p hp=>(kl p hp).1).ly
    have dp:(PyData.list ((ps.map Pr.pair).map lS)).depth<=60:=Nat.le_trans (Nat.succ_le_succ (hU (k:=0) fun p hp=>(kl p hp).1).dp) (by decide)
    have s6:=ah.upd (o:=HO.lst []) n6
    refine ⟨.list ((ps.map Pr.pair).map lS), .list [], .lst (aT.of (s6 _ _ By)) (fE fun p hp=>(kl p hp).1.same s6), .lst (aT.of ae) .nil,⟨ly,rfl⟩,dp,?_⟩
    refine ⟨_,rfl,?_⟩
    cases ps with
    | nil=>exact dq (by rfl) (key _ s6)
    | cons p0 pt=>
     refine fT (by rfl) ?_
     refine ⟨by show 1<=sizeLine;decide,fun t1 HP=>?_⟩
     have s7:=s6.trans (ah.upd (o:=HO.tup [V.str (S [111,117,116])]) HP)
     have zZ:upd (upd H5 p6 (HO.lst [])) t1 (HO.tup [V.str (S [111,117,116])]) t1=some (HO.tup [V.str (S [111,117,116])]):=ae
     generalize upd (upd H5 p6 (HO.lst [])) t1 (HO.tup [V.str (S [111,117,116])])=H7 at s7 zZ ⊢
     have CO:=s7 _ _ By
     have oa:(bR (p0::pt)).length=pt.length+1:=by rw[aZ];rfl
     refine ⟨_,rfl,_,rfl,_,rfl,p4,_,rfl, .inl (aT.of CO),b,_,rfl,KH.same s7,by rw[oa];omega,by rw[oa];simp at ig;omega,fun r H8 hr TM s8=>?_⟩
     rw[oa]at hr
     have nL:r<(p0::pt).length:=by simp;omega
     have u_:(bR (p0::pt))[r]? =some (V.ref (p0::pt)[r].t):=by unfold bR;rw[List.getElem?_map,List.getElem?_eq_getElem nL];rfl
     have hV:=kl _ (List.getElem_mem nL)
     generalize (p0::pt)[r]=pr at u_ hV
     refine ⟨p4,_,_,_,rfl,rfl,aT.of (s8 _ _ CO b4),aM u_,?_⟩
     have KJ:=aF.box (KH.same s7) s8
     refine ⟨t1,pr.t,_,_,rfl,rfl,aW.of (KJ _ _ zZ),aW.of (KJ _ _ (s7 _ _ hV.1.tp)),by simp,by show 3<=sizeLine;decide,fun e=>absurd e (by simp),fun _ p np=>?_⟩
     exact q p (.out pr.c pr.i) _ ae hV.2 (((Fe.after s7).trans s8).after (ah.upd np))
   ·exact vD (key _ (ah.refl _))
  ·intro H6 s6
   have TN:=Fe.after s6
   have NC:=KH.same s6
   have zV:=s6 _ _ Es
   have Eu:=s6 _ _ Et
   have TQ: ∀o∈os,fZ H6 o:=fun o ho=>(TL o ho).same s6
   have IC:=s6 _ _ IB
   clear s6 Fe KH Es Et TL IB By kl ig KI
   have Ac:c<ws.length:=by omega
   have KL:ws[c]? =some ws[c]:=List.getElem?_eq_getElem Ac
   obtain ⟨tP,rq⟩:=xU _ (List.getElem_mem Ac)
   generalize ws[c]=w at KL tP rq
   have TR:(bX ws)[c]? =some (V.str (S w)):=by unfold bX;rw[List.getElem?_map,KL];rfl
   have Ws:(ws.map List.length).sum<=48:=by
    have: ∀l:List (List Nat),(∀w∈l,w.length<=12)->(l.map List.length).sum<=12*l.length:=fun l=>by
     induction l with
     | nil=>intro _;simp
     | cons a l ih=>intro h;rw[List.map_cons,List.sum_cons,List.length_cons];have:=ih fun w hw=>h w (List.mem_cons_of_mem _ hw);have:=h a List.mem_cons_self;omega
    have:=this ws fun w hw=>(xU w hw).2
    omega
   apply HK (H5:=H6)
   ·intro key
    refine ⟨_,rfl,_,_,rfl,rfl,_,rfl,cO (fun z=>?_) (fun z=>?_)⟩
    rotate_left
    ·exact vD (key _ (ah.refl _))
    refine ⟨_,rfl,wt,_,rfl, .inr (aW.of zV),_,_,rfl,rfl,_,rfl,fT (decide_eq_true (by rw[aS];omega)) ?_⟩
    refine ⟨_,rfl,_,rfl,wt,_,_,_,rfl,rfl,aW.of zV,aM TR,w,rfl,by omega,_,_,rfl,rfl,_,rfl,cO (fun z2=>?_) (fun z2=>?_)⟩
    rotate_left
    ·exact vD (key _ (ah.refl _))
    refine ⟨rfl,_,rfl,wt,ws,rfl,rfl,aW.of zV,by omega,?_⟩
    refine ⟨_,rfl,by rw[List.length_flatten];omega,_,_,rfl,rfl,_,rfl,cO (fun z3=>?_) (fun z3=>?_)⟩
    rotate_left
    ·exact key _ (ah.refl _)
    have Wt:w.length<11:=by have:=of_decide_eq_true z2;omega
    have Mf:(100:Nat)<sizeLine:=by decide
    refine ⟨_,rfl,_,rfl,_,rfl,y,rfl,by omega,b,_,rfl,NC,by omega,by omega,fun r H8 hr TM s8=>?_⟩
    have nL:r<y.length:=by omega
    refine ⟨y,_,_,rfl,rfl,by omega,aM (List.getElem?_eq_getElem nL),?_⟩
    have wR:y[r]∈y:=List.getElem_mem nL
    generalize y[r]=x at wR ⊢
    have ID:=s8 _ _ IC Ny
    have KJ:=aF.box NC s8
    have BY:=yR hy wR
    have TU:(aD y).idxOf (PyProof.Rows.lo1 x)<(aD y).length:=List.idxOf_lt_length_of_mem BY
    have zU:=q9 hy
    refine ⟨_,rfl,nm,rfl,⟨_,aT.of ID⟩,?_⟩
    refine sq (K:=K) (a:=nm) (xs:=bY (aD y)) (fun i acc H'=>ah H8 H'/\acc=if (aD y).idxOf (PyProof.Rows.lo1 x)<i then [V.int ((aD y).idxOf (PyProof.Rows.lo1 x):Nat)] else []) (by rw[aQ];omega) (fun i acc H' h=>aT.of (h.1 _ _ ID)) ⟨ah.refl _,by simp⟩ ?_ ?_
    ·rintro i v acc H9 T Nx hv gA ⟨s9,rfl⟩ nT nx
     obtain ⟨nb,Ff,rfl⟩:=dH hv
     have ND:=List.mem_of_getElem? Ff
     have IE:=qT hy ND
     have NF:=jv zU Ff
     refine ⟨T,_,rfl,aW.of ae,rfl,_,_,rfl,_,_,rfl,rfl,?_⟩
     refine ⟨⟨rfl,trivial⟩,?_⟩
     refine ⟨_,rfl,_,rfl,_,rfl,nb,rfl, .inl IE,by show 2<=sizeLine;decide,fun t nt=>?_⟩
     refine ⟨t,_,rfl, .inr (aW.of ae),rfl,rfl,_,rfl,?_⟩
     have NG:=s9.trans ((ah.upd (o:=HO.tup [.int i, .str (S [nb])]) nT).trans (ah.upd (o:=HO.tup [.str (S [nb]), .str (S [aU nb])]) nt))
     generalize upd (upd H9 T (HO.tup [.int i, .str (S [nb])])) t (HO.tup [.str (S [nb]), .str (S [aU nb])])=NH at NG ⊢
     show if Av (.str (S [x])) [.str (S [nb]), .str (S [aU nb])]=true then _ else _
     rw[uv]
     have JX:(decide (x=nb)||decide (x=aU nb))=decide (PyProof.Rows.lo1 x=nb):=(sZ IE (hy.lt x wR)).symm
     rw[JX]
     refine cO (fun v1=>?_) (fun v1=>?_)
     ·have e1:PyProof.Rows.lo1 x=nb:=of_decide_eq_true v1
      have NI:(aD y).idxOf (PyProof.Rows.lo1 x)=i:=by rw[e1];exact NF
      refine ⟨_,rfl,nx _ _ (by simpa using gA) ⟨NG,?_⟩⟩
      rw[NI,if_neg (Nat.lt_irrefl _),if_pos (Nat.lt_succ_self _)]
      rfl
     ·have e1: ¬PyProof.Rows.lo1 x=nb:=fun g=>v1 (decide_eq_true g)
      refine nx _ _ (Nat.le_succ_of_le gA) ⟨NG,?_⟩
      have e2:(aD y).idxOf (PyProof.Rows.lo1 x)≠i:=fun g=>e1 (by
       have e3:=List.getElem_idxOf TU
       have e4:=(List.getElem?_eq_some_iff.mp Ff).2
       rw[<-e3, <-e4]
       congr 1)
      by_cases g:(aD y).idxOf (PyProof.Rows.lo1 x)<i
      ·rw[if_pos g,if_pos (by omega)]
      ·rw[if_neg g,if_neg (by omega)]
    ·rintro acc H9 D gA ⟨s9,rfl⟩ hD
     rw[aQ,if_pos TU]
     refine ⟨D,_,_,_,rfl,rfl,aT.of ae,aM (j:=0) rfl,?_⟩
     have BD:=s9.trans (ah.upd (o:=HO.lst [V.int ((aD y).idxOf (PyProof.Rows.lo1 x):Nat)]) hD)
     generalize upd H9 D (HO.lst [V.int ((aD y).idxOf (PyProof.Rows.lo1 x):Nat)])=NH at BD ⊢
     have IF:aF H6 NH:=KJ.trans (aF.of BD)
     have xk:=TM.same BD
     have xD:(aD y).idxOf (PyProof.Rows.lo1 x)<os.length:=by omega
     have rC:os[(aD y).idxOf (PyProof.Rows.lo1 x)]? =some os[(aD y).idxOf (PyProof.Rows.lo1 x)]:=List.getElem?_eq_getElem xD
     have iR:=List.getElem_mem xD
     generalize os[(aD y).idxOf (PyProof.Rows.lo1 x)]=o at rC iR
     refine ⟨_,rfl,_,rfl,_,rfl,_,rfl,wt,_,_,_,rfl,rfl,aW.of (IF _ _ zV),aM TR,w,rfl,by omega,_,_,rfl,rfl,b,_,rfl,xk,by omega,by omega,fun r1 Wu SQ Fg Fh=>?_⟩
     have zI:=IF.trans (aF.box xk Fh)
     have ok:=(TQ o iR).ts zI
     have hlen:=hg.len o iR
     refine ⟨_,rfl,_,rfl,_,rfl,_,rfl,ot,_,_,_,rfl,rfl,aW.of (zI _ _ Eu),aM (lQ rC),o.o,_,rfl, .inr (aW.of ok.tp),_,_,rfl,rfl,b,_,rfl,Fg,by omega,by rw[aZ];omega,fun r2 Wv NJ NK FR=>?_⟩
     rw[aZ]at NJ
     refine ⟨by show 5<=sizeLine;decide,fun p np=>?_⟩
     refine q p (.ins c r1 x r2) _ ae ⟨Ac,?_,?_,wR,?_⟩ (((((TN.trans s8).after BD).trans Fh).trans FR).after (ah.upd np))
     ·rw[bB KL];omega
     ·rw[bB KL];omega
     ·rw[bB (show (os.map bg)[(aD y).idxOf (PyProof.Rows.lo1 x)]? =some (bg o) by rw[List.getElem?_map,rC];rfl)]
      unfold bg
      rw[List.length_map]
      omega
   ·intro H7 s7
    have IG:=s7 _ _ IC
    have TV:=s7 _ _ Eu
    have TX:=NC.same s7
    have NL:=TN.after s7
    have TY: ∀o∈os,fZ H7 o:=fun o ho=>(TQ o ho).same s7
    have zU:=q9 hy
    have turn: ∀(H8:Hp) (p:Addr),aI b H H8->H8 p=none->Q (.ref p) (upd H8 p (.tup [V.str (S [116,117,114,110]),V.int (c:Nat)])):=fun H8 p s8 np=>q p (.turn c) _ ae Ac (s8.after (ah.upd np))
    refine ⟨_,rfl,nm,_,rfl, .inl (aT.of IG),_,rfl,?_⟩
    rw[aQ]
    refine ⟨by omega,by omega,?_⟩
    refine lx (fun i acc H'=>H'=H7/\ ∃ks:List Nat,acc=yJ ks/\(∀k∈ks, ∃o,os[k]? =some o/\1<o.ps.length)/\ks.length<=i) (by omega) ⟨rfl,[],rfl,fun _ h=>absurd h List.not_mem_nil,Nat.le_refl _⟩ ?_ ?_
    ·rintro i acc H8 Nx hi gA ⟨rfl,ks,rfl,KN,FN⟩ nx
     have xD:i<os.length:=by omega
     have rC:os[i]? =some os[i]:=List.getElem?_eq_getElem xD
     have iR:=List.getElem_mem xD
     generalize os[i]=o at rC iR
     rw[Int.zero_add]
     refine ⟨⟨rfl,trivial⟩,?_⟩
     refine ⟨_,rfl,_,rfl,ot,_,_,_,rfl,rfl,aW.of TV,aM (lQ rC),o.o,_,rfl, .inr (aW.of (TY o iR).tp),_,_,rfl,rfl,_,rfl,cO (fun v=>?_) (fun v=>?_)⟩
     ·have v1:(1:Int)<((bR o.ps).length:Int):=of_decide_eq_true v
      rw[aZ]at v1
      refine ⟨_,rfl,nx _ _ (by simpa using gA) ⟨rfl,ks++[i],by unfold yJ;rw[List.map_append];rfl,fun k hk=>?_,by rw[List.length_append];show ks.length+1<=_;omega⟩⟩
      rcases List.mem_append.mp hk with g | g
      ·exact KN k g
      ·rw[List.mem_singleton.mp g];exact ⟨o,rC,by omega⟩
     ·exact nx _ _ (Nat.le_succ_of_le gA) ⟨rfl,ks,rfl,KN,by omega⟩
    ·rintro acc H8 D gA ⟨rfl,ks,rfl,KN,FN⟩ hD
     have sD:=ah.upd (o:=HO.lst (yJ ks)) hD
     have Ad:upd H8 D (HO.lst (yJ ks)) D=some (HO.lst (yJ ks)):=ae
     generalize upd H8 D (HO.lst (yJ ks))=H9 at sD Ad ⊢
     have TZ:=NL.after sD
     have Ww:=TX.same sD
     refine ⟨_,rfl,_,_,rfl,rfl,_,rfl,cO (fun z=>?_) (fun z=>?_)⟩
     ·refine ⟨_,rfl,wt,_,rfl, .inr (aW.of (sD _ _ (s7 _ _ zV))),_,_,rfl,rfl,_,rfl,fT (decide_eq_true (by rw[aS];omega)) (fT rfl ?_)⟩
      exact ⟨_,rfl,by show 2<=sizeLine;decide,fun p np=>turn _ _ TZ np⟩
     ·refine vD ⟨_,rfl,Nat.zero_le _,fun p6 n6=>?_⟩
      have s6:=ah.upd (o:=HO.lst []) n6
      refine ⟨.list (ids ks), .list [], .lst (aT.of (s6 _ _ Ad)) (nP ks), .lst (aT.of ae) .nil,⟨lay_ints ks,rfl⟩,by show PyData.depthAll (ids ks)+1<=60;rw[lJ];decide,?_⟩
      have Fi:=s6 _ _ Ad
      have Fj:=TZ.after s6
      have Fl:=sD.trans s6
      have xk:=Ww.same s6
      generalize upd H9 p6 (HO.lst [])=NH at s6 Fi Fj Fl xk ⊢
      refine ⟨_,rfl,?_⟩
      cases ks with
      | nil=>exact fT (by rfl) ⟨_,rfl,by show 2<=sizeLine;decide,fun p np=>turn _ _ Fj np⟩
      | cons k0 kt=>
       refine dq (by rfl) ?_
       have oa:(yJ (k0::kt)).length=kt.length+1:=by unfold yJ;simp
       refine ⟨_,rfl,_,rfl,_,rfl,D,_,rfl, .inl (aT.of Fi),b,_,rfl,xk,by rw[oa];omega,by rw[oa];simp at FN;omega,fun r Wu hr Fg Fh=>?_⟩
       rw[oa]at hr
       have nL:r<(k0::kt).length:=by simp;omega
       have u_:(yJ (k0::kt))[r]? =some (V.int ((k0::kt)[r]:Nat)):=by unfold yJ;rw[List.getElem?_map,List.getElem?_eq_getElem nL];rfl
       obtain ⟨o,bh,Dq⟩:=KN _ (List.getElem_mem nL)
       generalize (k0::kt)[r]=k at u_ bh
       have Wx:D≠b:=TX.ne hD
       refine ⟨D,_,_,_,rfl,rfl,aT.of (Fh _ _ Fi Wx),aM u_,?_⟩
       have Nl:k<(aD y).length:=by have:=(List.getElem?_eq_some_iff.mp bh).1;omega
       have NM:(aD y)[k]? =some (aD y)[k]:=List.getElem?_eq_getElem Nl
       have T1:=List.getElem_mem Nl
       generalize (aD y)[k]=nb at NM T1
       have JV:(bY (aD y))[k]? =some (V.str (S [nb])):=by unfold bY;rw[List.getElem?_map,NM];rfl
       have iR:=List.mem_of_getElem? bh
       have zI:=(aF.of Fl).trans (aF.box xk Fh)
       have ok:=(TY o iR).ts zI
       have hlen:=hg.len o iR
       refine ⟨_,rfl,_,rfl,nm,_,_,_,rfl,rfl,aT.of (Fh _ _ (Fl _ _ IG) Ny),aM JV,?_⟩
       refine ⟨_,rfl,_,rfl,_,rfl,ot,_,_,_,rfl,rfl,aW.of (zI _ _ TV),aM (lQ bh),o.o,_,rfl, .inr (aW.of ok.tp),_,_,rfl,rfl,b,_,rfl,Fg,by rw[aZ];omega,by rw[aZ];omega,fun r2 Wv NJ NK FR=>?_⟩
       rw[aZ]at NJ
       refine ⟨by show 3<=sizeLine;decide,fun p np=>?_⟩
       refine q p (.swap nb r2) _ ae ⟨T1,?_⟩ (((Fj.trans Fh).trans FR).after (ah.upd np))
       rw[jv zU NM,bB (show (os.map bg)[k]? =some (bg o) by rw[List.getElem?_map,bh];rfl)]
       unfold bg
       rw[List.length_map]
       omega
theorem Fm:bQ P w K mg base fk 8 CJ Eu ["_law_script"] (jK K):=by
 have tV:=BA (P:=P) (w:=w) (base:=base) T
 have BE:=zG (P:=P) (w:=w) (base:=base) T
 have zJ:=xb (P:=P) (w:=w) (base:=base) T
 have tW:=rB (P:=P) (w:=w) (base:=base) T
 have mF:=vb (P:=P) (w:=w) (base:=base) T
 have BF:=zH (P:=P) (w:=w) (base:=base) T
 have mD:=u6 (P:=P) (w:=w) (base:=base) T
 have Fn:=Bz (P:=P) (w:=w) (base:=base) T
 have mG:=kC (P:=P) (w:=w) (base:=base) T
 refine T.Kp.fn.ok cM (fun vs H Q E h=>A5 h) (fun cS A outer s H vs Q E hr h=>?_)
 refine ⟨_,(af (au (i:=1) cM.nd rfl (Or.inl rfl) (ao tV (hr.mono (by decide)) rfl T.wZ.mg T.wZ.fn.kp T.wZ.bd .nil aC (aa (pv 0) (aa ag ab))))
   (af (au (i:=2) cM.nd rfl (Or.inl rfl) (ao BE (hr.mono (by decide)) rfl T.EI.mg T.EI.fn.kp T.EI.bd .nil aC (aa (pv 1) (aa ag (aa ag ab)))))
   (af (au (i:=3) cM.nd rfl (Or.inl rfl) (ao zJ (hr.mono (by decide)) rfl T.EM.mg T.EM.fn.kp T.EM.bd .nil aC (aa (pv 1) (aa (pv 2) ab))))
   (af (au (i:=4) cM.nd rfl (Or.inl rfl) (ao tW (hr.mono (by decide)) rfl T.EL.mg T.EL.fn.kp T.EL.bd .nil aC (aa (ao tV (hr.mono (by decide)) rfl T.wZ.mg T.wZ.fn.kp T.wZ.bd .nil aC (aa (pv 0) (aa ag ab))) (aa (pv 2) (aa (pv 3) ab)))))
   (af (au (i:=5) cM.nd rfl (Or.inl rfl) (bp (aa (pv 4) ab)))
   (af (bw PassesOwn.never rfl (eE rfl T.z_range (aa ag ab)) (aw (i:=6) cM.nd rfl (Or.inl rfl)) (af (au (i:=7) cM.nd rfl (Or.inl rfl) (aB (aV K rfl) (pv 5) (xH rO ag) (fun _ _=>rfl)))
   (af (bw PassesOwn.never rfl (nc rfl T.z_range (aa (aA br ag (aA gH ag (pv 6))) (aa (aA br (aA br ag (aA gH ag (pv 6))) (aB (aV K rfl) (bp (aa ag (aa ag ab))) (bj nh rfl T.z_int boot_int (aa (i4 i0 (ar (ax K rfl) rfl T.z_len PySem.boot_len (aa (pv 0) ab)) ag (aP _)) ab)) (fun _ _=>rfl))) ab))) (aw (i:=8) cM.nd rfl (Or.inl rfl)) (ai (au (i:=7) cM.nd rfl (Or.inl rfl) (ao mF (hr.mono (by decide)) rfl T.F9.mg T.F9.fn.kp T.F9.bd .nil aC (aa (pv 2) (aa (pv 7) (aa (bp (aa (ao BF (hr.mono (by decide)) rfl T.EN.mg T.EN.fn.kp T.EN.bd .nil aC (aa (ao tV (hr.mono (by decide)) rfl T.wZ.mg T.wZ.fn.kp T.wZ.bd .nil aC (aa (pv 0) (aa (pv 8) ab))) (aa (pv 2) (aa (pv 7) ab)))) ab)) ab)))))))
   (ai (ba (bf K rfl PySem.F.plainAttrs_list PySem.F.slot_list_append PySem.F.type_list_append bt (pv 5) (aa (pv 7) ab)))))))
   (af (lz (i:=9) ["_law_word_here"] [none] cM.nd rfl (Or.inl rfl) (uk K rfl (pv 3)) trivial (fun _ _ _ _=>(aw (i:=0) (by decide+kernel:List.Nodup (["_law_word_here"]:List Str)) rfl (Or.inl rfl))) (fun _ _ _ _=>jM) (fun _ _ _ _=>(ao mD (hr.mono (by decide)) rfl T.rH.mg T.rH.fn.kp T.rH.bd .nil aC (aa (pv 0) ab))))
   (af (au (i:=7) cM.nd rfl (Or.inl rfl) (pv 4))
   (af (bw PassesOwn.never rfl (fv K rfl (bp (aa (aB (aV K rfl) (pv 5) ag (fun _ _=>rfl)) (aa (aB (aV K rfl) (pv 5) ag (fun _ _=>rfl)) (aa (pv 4) ab))))) (aw (i:=10) cM.nd rfl (Or.inl rfl)) (af (au (i:=11) cM.nd rfl (Or.inl rfl) (ao Fn (hr.mono (by decide)) rfl T.ED.mg T.ED.fn.kp T.ED.bd .nil aC (aa (pv 2) (aa (pv 7) (aa (pv 10) ab)))))
   (af (bH (aE (lB K rfl hr) (ao mF (hr.mono (by decide)) rfl T.F9.mg T.F9.fn.kp T.F9.bd .nil aC (aa (pv 2) (aa (pv 7) (aa (bj (cR K rfl) rfl T.z_list boot_list (aa (pv 11) ab)) ab)))) (pv 10) (aP _)) (ai (aH fc)) a_)
   (af (bw PassesOwn.never rfl (fv K rfl (pv 11)) (aw (i:=12) cM.nd rfl (Or.inl rfl)) (af (au (i:=7) cM.nd rfl (Or.inl rfl) (ao mF (hr.mono (by decide)) rfl T.F9.mg T.F9.fn.kp T.F9.bd .nil aC (aa (pv 2) (aa (pv 7) (aa (bp (aa (pv 12) ab)) ab)))))
   (ai (bH (PW.pt (p7 (aE (lB K rfl hr) (di ["_law_word_here"] [none] (uk K rfl (aB (aG K rfl) (pv 7) ag (fun _ _=>rfl))) trivial (fun _ _ _ _=>(aw (i:=0) (by decide+kernel:List.Nodup (["_law_word_here"]:List Str)) rfl (Or.inl rfl))) (fun _ _ _ _=>jM) (fun _ _ _ _=>(ao mD (hr.mono (by decide)) rfl T.rH.mg T.rH.fn.kp T.rH.bd .nil aC (aa (pv 0) ab)))) (pv 9) (aP _)) (kM (aE AK (ao mG (hr.mono (by decide)) rfl T.EH.mg T.EH.fn.kp T.EH.bd .nil aC (aa (pv 2) (aa (pv 7) ab))) fc (aP _))))) (ai (aH fc)) a_))))
   (ai (bH (aE (lB K rfl hr) (pv 7) (pv 10) (aP _)) (ai (aH fc)) a_))))))
   (ai (aH (i4 (yb K rfl hr) (pv 7) (pv 4) (aP _))))))))))))),?_⟩
 obtain ⟨a,ns,rfl,hS,hl,q⟩:=h
 have hs:(100000:Nat)<sizeLine:=by decide
 refine ⟨_,rfl,a,ns,0,rfl,hS,by decide,fun b H1 nb bx s1=>?_⟩
 refine ⟨_,rfl,b,1,4,rfl,bx,by decide,by decide,by decide,fun y H2 hy Nu Y8 Wy s2=>?_⟩
 have MJ:y≠[]:=fun z=>by rw[z]at Nu;simp at Nu
 refine ⟨_,rfl,_,rfl,b,y,rfl,Wy,MJ,by omega,fun wt ws H3 Y9 Y_ tN xw Nv Nr s3=>?_⟩
 have FU:ah H H3:=aI.same nb s1 (s2.trans s3)
 refine ⟨_,rfl,a,ns,1,rfl,FU.seq hS,by decide,fun b2 H4 T3 Wz s4=>?_⟩
 refine ⟨_,rfl,_,rfl,b2,y,wt,ws,rfl,Wz,hy,by omega,ak tN T3,s4 _ _ tN,xw,fun dr os H5 Ib EW Za s5=>?_⟩
 have T4:ah H3 H5:=aI.same T3 s4 s5
 have Fe:=FU.trans T4
 have NN:=T4 _ _ tN
 have hg:Good y ws (os.map bg):=⟨xw,EW.Vj⟩
 have Kv:=xw.jQ
 have pT:kz y (ws.map az) H5 ⟨dr,ws,os⟩:=⟨Ib,hg,Nv,rfl⟩
 refine ⟨_,rfl,by show 1<=sizeLine;decide,fun st T5=>?_⟩
 have e6:=ah.upd (o:=HO.lst (xv [⟨dr,ws,os⟩])) T5
 have NO:upd H5 st (HO.lst (xv [⟨dr,ws,os⟩])) st=some (HO.lst (xv [⟨dr,ws,os⟩])):=ae
 refine ⟨2,rfl,by decide,by decide,?_⟩
 refine fu (fun i σ H'=> ∃(ds:List Dw) (cur:Dw) (tv hv kv:Option V),σ=[some (.ref a),some (.ref b),some (.str (S y)),some (.ref wt),some (.ref dr),some (.ref st),tv,hv,kv,none,none,none,none]/\H' st=some (.lst (xv (ds++[cur])))/\ds.length=i/\(∀d∈ds++[cur],kz y (ws.map az) H' d)/\ah H5 H')
  ⟨[],⟨dr,ws,os⟩,none,none,none,rfl,NO,rfl,fun d hd=>by rw[List.mem_singleton.mp hd];exact pT.same e6,e6⟩ ?_ ?_
 ·rintro i σ H7 hi ⟨ds,cur,tv,hv,kv,rfl,BG,z0,u7,BC⟩
  have NL:=Fe.trans BC
  have zB:=u7 cur (List.mem_append_right _ List.mem_cons_self)
  have v8:i<2:=by omega
  refine ⟨_,rfl,1,rfl,st,_,_,_,rfl,rfl,aT.of BG,by rw[<-rn];exact qd _ _,?_⟩
  refine ⟨_,rfl,_,_,rfl,rfl, .inl ⟨by decide,by decide⟩,_,_,rfl,rfl,?_⟩
  refine ⟨_,rfl,_,_,rfl,rfl, .inl ⟨by decide,by decide⟩,_,_,rfl,rfl,by show 2<=sizeLine;decide,fun pl WA=>?_⟩
  have el:=ah.upd (o:=HO.lst [V.int 4,V.int 9]) WA
  refine ⟨_,rfl,a,_,rfl, .inl ((NL.trans el).seq hS),_,_,rfl,rfl, .inr ⟨_,rfl,?_⟩⟩
  obtain ⟨n,hn,Zb⟩: ∃n:Nat,ny [V.int 4,V.int 9] (if decide ((9:Int)<((ns.map V.int).length:Int))=true then 1 else 0)=some (V.int n)/\n<=9:=by
   by_cases g:(9:Int)<((ns.map V.int).length:Int)
   ·rw[decide_eq_true g];exact ⟨9,rfl,by decide⟩
   ·rw[decide_eq_false g];exact ⟨4,rfl,by decide⟩
  refine ⟨pl,_,_,_,rfl,rfl,aT.of ae,hn,_,_,rfl,rfl,?_⟩
  refine ⟨_,_,rfl,⟨by omega,by omega,by omega,by omega⟩,?_⟩
  generalize upd H7 pl (HO.lst [V.int 4,V.int 9])=H8 at el ⊢
  refine fu (fun j σ H'=> ∃(c2:Dw) (kv:Option V),σ=[some (.ref a),some (.ref b),some (.str (S y)),some (.ref wt),some (.ref dr),some (.ref st),some (.int (0+(i:Int))),some (.ref c2.a),kv,none,none,none,none]/\kz y (ws.map az) H' c2/\ah H8 H')
   ⟨cur,kv,rfl,zB.same el,ah.refl _⟩ ?_ ?_
  ·rintro j σ H9 hj ⟨c2,WB,rfl,mH,BD⟩
   have NP:=(BC.trans el).trans BD
   have hk:((2:Int)+9*(0+(i:Int))+(j:Int))=((2+9*i+j:Nat):Int):=by omega
   refine ⟨_,rfl,_,rfl,_,rfl,_,rfl,a,ns,2+9*i+j,by rw[<-hk];rfl,(Fe.trans NP).seq hS,by omega,fun b3 HA WC WD sA=>?_⟩
   refine ⟨_,rfl,_,rfl,b3,y,c2.a,c2.ws,c2.os,rfl,WD,hy,by omega,by omega,mH.ne,mH.gd,mH.dr.same sA,fun da e HB WE bh sB=>?_⟩
   have WG:ah H9 HB:=aI.same WC sA sB
   refine ⟨by show 1<=sizeLine;decide,fun pd NQ=>?_⟩
   have sl:=ah.upd (o:=HO.lst [V.ref da]) NQ
   have T6:=WG.trans sl
   refine ⟨y,c2.a,c2.ws,c2.os,pd,[⟨da,e⟩],rfl,hy,by omega,mH.gd,mH.dr.same T6,ae,fun x hx=>?_,by show 1<=50000;decide,⟨bh,trivial⟩,fun Fo BH HD g1 g2 g3 sD=>?_⟩
   ·rw[List.mem_singleton.mp hx];exact WE.ts (aF.of sl)
   replace g1:f_ HD Fo (dW c2.ws e) BH:=g1
   replace g3:Good y (dW c2.ws e) (BH.map bg):=g3
   have oE:(dW c2.ws e).map az=ws.map az:=(og hy mH.gd bh).trans mH.rg
   have BI:dW c2.ws e≠[]:=fun z=>mH.ne (by have:=y7 c2.ws e;rw[z]at this;exact List.length_eq_zero_iff.mp this.symm)
   exact ⟨⟨Fo,dW c2.ws e,BH⟩,_,rfl,⟨g1,g3,BI,oE⟩,BD.trans (T6.trans sD)⟩
  ·rintro σ H9 ⟨c2,WB,rfl,mH,BD⟩
   have CT:=el.trans BD
   have xl:=CT _ _ BG
   refine ⟨_,rfl, .inl ⟨rfl,_,aT.of xl⟩,_,rfl,st,_,_,rfl,rfl,xl,by rw[Bk,List.length_append];simp only[List.length_cons,List.length_nil];omega,?_⟩
   rw[rn]
   have tU:=aF.fR (o:=HO.lst (xv (ds++[cur]++[c2]))) xl
   refine ⟨ds++[cur],c2,_,_,_,rfl,ae,by rw[List.length_append,List.length_cons,List.length_nil];omega,fun d hd=>?_,?_⟩
   ·rcases List.mem_append.mp hd with g | g
    ·exact ((u7 d g).same CT).ts tU
    ·rw[List.mem_singleton.mp g];exact mH.ts tU
   ·intro c o e
    rw[aq (ak e T5)]
    exact CT _ _ (BC _ _ e)
 ·rintro σ H7 ⟨ds,cur,tv,hv,kv,rfl,BG,z0,u7,BC⟩
  have IH:=BC _ _ NN
  have II: ∀{us:List (List Nat)} {L:fb},Good y us L-> ∀w∈us,(∀c∈w,Lt c)/\w.length<=12:=fun g w hw=>⟨fun c hc=>hy.lt c ((g.gX w hw).1 c hc),(g.gX w hw).2⟩
  have cN:=II hg
  refine ⟨_,rfl,wt,rfl,⟨_,aW.of IH⟩,?_⟩
  refine qq (K:=K) (a:=wt) (xs:=bX ws) (fun i acc H'=>ah H7 H'/\acc=bX ((ws.take i).map az)) (by rw[aS];omega) (fun i acc H' h=>aW.of (h.1 _ _ IH)) ⟨ah.refl _,rfl⟩ ?_ ?_
  ·rintro i x acc H8 Nx hi hx gA ⟨s8,rfl⟩ nx
   obtain ⟨w,hw,rfl⟩:=uW hx
   have HX:=cN w (List.mem_of_getElem? hw)
   refine ⟨trivial,jk ?_⟩
   refine ⟨_,rfl,w,rfl,HX.1,by omega,fun H9 s9=>nx _ _ (by simpa using gA) ⟨s8.trans s9,?_⟩⟩
   rw[lG, <-take_snoc hw,List.map_append]
   rfl
  rintro acc H8 rg gA ⟨s8,rfl⟩ WH
  rw[aS,List.take_length]
  have CT:=s8.trans (ah.upd (o:=HO.lst (bX (ws.map az))) WH)
  have u_:upd H8 rg (HO.lst (bX (ws.map az))) rg=some (HO.lst (bX (ws.map az))):=ae
  generalize upd H8 rg (HO.lst (bX (ws.map az)))=H9 at CT u_ ⊢
  obtain ⟨d0,d1,rfl⟩: ∃d0 d1,ds=[d0,d1]:=by
   match ds,z0 with
   | [d0,d1],_=>exact ⟨d0,d1,rfl⟩
  have xl:H9 st=some (HO.lst [V.ref d0.a,V.ref d1.a,V.ref cur.a]):=CT _ _ BG
  have NP:=BC.trans CT
  refine ⟨_,rfl,_,rfl,st,_,_,_,rfl,rfl,aT.of xl,aM (j:=2) rfl,_,rfl,st,_,_,_,rfl,rfl,aT.of xl,aM (j:=1) rfl,_,rfl,by show 3<=sizeLine;decide,fun pg WI=>?_⟩
  have eg:=ah.upd (o:=HO.lst [V.ref cur.a,V.ref d1.a,V.ref dr]) WI
  have NR:upd H9 pg (HO.lst [V.ref cur.a,V.ref d1.a,V.ref dr]) pg=some (HO.lst (xv [cur,d1,⟨dr,ws,os⟩])):=ae
  generalize upd H9 pg (HO.lst [V.ref cur.a,V.ref d1.a,V.ref dr])=HG at eg NR ⊢
  have NS:=NP.trans eg
  have T7:=CT.trans eg
  have NT:=eg _ _ u_
  have WJ: ∀gl∈[cur,d1,⟨dr,ws,os⟩],kz y (ws.map az) HG gl:=fun gl h=>by
   rcases List.mem_cons.mp h with e | h
   ·rw[e];exact (u7 cur (by simp)).same T7
   ·rcases List.mem_cons.mp h with e | h
    ·rw[e];exact (u7 d1 (by simp)).same T7
    ·rw[List.mem_singleton.mp h];exact pT.same NS
  refine ⟨pg,rfl,⟨_,aT.of NR⟩,?_⟩
  refine gG (K:=K) (a:=pg) (xs:=xv [cur,d1,⟨dr,ws,os⟩]) (fun n σ H'=> ∃(c2:Dw) (gv NU dv:Option V),σ=[some (.ref a),some (.ref b),some (.str (S y)),some (.ref wt),some (.ref dr),some (.ref st),tv,some (.ref c2.a),kv,some (.ref rg),gv,NU,dv]/\kz y (ws.map az) H' c2/\(∀m gl,n=m+1->[cur,d1,(⟨dr,ws,os⟩:Dw)][m]? =some gl->c2.ws=gl.ws/\c2.os.map bg=gl.os.map bg)/\ah HG H')
   ⟨⟨dr,ws,os⟩,none,none,none,rfl,pT.same NS,fun m gl h=>by omega,ah.refl _⟩ (fun n σ H' _ ⟨_,_,_,_,_,_,_,h⟩=>aT.of (h _ _ NR)) ?_ ?_
  ·rintro n x σ HA hx ⟨c2,gv,NU,dv,rfl,mH,_,KO⟩
   obtain ⟨gl,FD,rfl⟩: ∃gl,[cur,d1,(⟨dr,ws,os⟩:Dw)][n]? =some gl/\x=V.ref gl.a:=by
    unfold xv at hx
    rw[List.getElem?_map]at hx
    obtain ⟨gl,h1,h2⟩:=Option.map_eq_some_iff.mp hx
    exact ⟨gl,h1,h2.symm⟩
   have tX:=(WJ gl (List.mem_of_getElem? FD)).same KO
   refine ⟨_,rfl,_,rfl,_,rfl,y,c2.a,gl.a,c2.ws,gl.ws,c2.os,gl.os,rfl,hy,by omega,mH.gd,tX.gd,mH.dr,tX.dr,fun jG=>absurd (mH.rg.trans tX.rg.symm) jG,fun _=>?_⟩
   intro t dl HB nt ht m6 hP NV T8
   obtain ⟨T9,T_⟩:=hP
   refine ⟨_,rfl,_,rfl,_,rfl,t,_,rfl, .inl (aT.of ht),fun t2 FL=>?_⟩
   have e2:=ah.upd (o:=HO.lst (dQ dl)) FL
   refine ⟨y,c2.a,c2.ws,c2.os,t2,dl,rfl,hy,by omega,mH.gd,mH.dr.same (T8.trans e2),ae,fun x hx=>(m6 x hx).ts (aF.of e2),NV,T9,fun m ms HC hm FT hmg sC=>?_⟩
   rw[T_]at hm FT
   replace hm:f_ HC m gl.ws ms:=hm
   replace FT:ms.map bg=gl.os.map bg:=FT
   have KP:=(T8.trans e2).trans sC
   have Ae:=zh hy (by omega) tX.dr tX.gd
   have rm:mI K HC (.ref m) (Ce gl.ws (gl.os.map bg)):=by rw[<-FT];exact ou hm
   refine ⟨_,rfl,_,_,rm,ou (tX.dr.same KP),⟨Ae.ly,Ae.ly⟩,Nat.le_trans Ae.dp (by decide),_,rfl,dq (by rw[eqv_refl _ (pM _ _)];rfl) ?_⟩
   have Ua:=sC _ _ (e2 _ _ ht)
   have NW: ∀x∈dl,d_ HC x.a x.e:=fun x hx=>(m6 x hx).ts (aF.of (e2.trans sC))
   have Ub:=KO.trans KP
   refine ⟨_,rfl,t,rfl,⟨_,aT.of Ua⟩,?_⟩
   refine gG (K:=K) (a:=t) (xs:=dQ dl) (fun k σ H'=> ∃(c3:Dw) (dv:Option V),σ=[some (.ref a),some (.ref b),some (.str (S y)),some (.ref wt),some (.ref dr),some (.ref st),tv,some (.ref c3.a),kv,some (.ref rg),some (.ref gl.a),some (.ref t),dv]/\kz y (ws.map az) H' c3/\Path y c3.ws (c3.os.map bg) ((dl.map Dd.e).drop k)/\eA y c3.ws (c3.os.map bg) ((dl.map Dd.e).drop k)=(gl.ws,gl.os.map bg)/\ah HC H')
    ⟨c2,dv,rfl,mH.same KP,T9,T_,ah.refl _⟩ (fun k σ H' _ ⟨_,_,_,_,_,_,h⟩=>aT.of (h _ _ Ua)) ?_ ?_
   ·rintro k x σ HD hx ⟨c3,WK,rfl,CU,CQ,m9,IJ⟩
    obtain ⟨x',JE,rfl⟩: ∃x',dl[k]? =some x'/\x=V.ref x'.a:=by
     unfold dQ at hx
     rw[List.getElem?_map]at hx
     obtain ⟨x',h1,h2⟩:=Option.map_eq_some_iff.mp hx
     exact ⟨x',h1,h2.symm⟩
    have NX:(dl.map Dd.e).drop k=x'.e::(dl.map Dd.e).drop (k+1):=by
     obtain ⟨hk,zO⟩:=List.getElem?_eq_some_iff.mp JE
     rw[List.drop_eq_getElem_cons (by rw[List.length_map];exact hk),List.getElem_map,zO]
    rw[NX]at CQ m9
    obtain ⟨bh,NY⟩:=CQ
    replace m9:eA y (dW c3.ws x'.e) (dO (aD y) c3.ws (c3.os.map bg) x'.e) ((dl.map Dd.e).drop (k+1))=(gl.ws,gl.os.map bg):=m9
    refine ⟨_,rfl,_,rfl,_,rfl,by show 1<=sizeLine;decide,fun pd NQ=>?_⟩
    have sl:=ah.upd (o:=HO.lst [V.ref x'.a]) NQ
    refine ⟨y,c3.a,c3.ws,c3.os,pd,[x'],rfl,hy,by omega,CU.gd,CU.dr.same sl,ae,fun z hz=>?_,by show 1<=50000;decide,⟨bh,trivial⟩,fun Fo BH HE g1 g2 g3 sE=>?_⟩
    ·rw[List.mem_singleton.mp hz];exact (NW x' (List.mem_of_getElem? JE)).ts (aF.of (IJ.trans sl))
    replace g1:f_ HE Fo (dW c3.ws x'.e) BH:=g1
    replace g2:BH.map bg=dO (aD y) c3.ws (c3.os.map bg) x'.e:=g2
    replace g3:Good y (dW c3.ws x'.e) (BH.map bg):=g3
    have oE:(dW c3.ws x'.e).map az=ws.map az:=(og hy CU.gd bh).trans CU.rg
    have BI:dW c3.ws x'.e≠[]:=fun z=>CU.ne (by have:=y7 c3.ws x'.e;rw[z]at this;exact List.length_eq_zero_iff.mp this.symm)
    rw[<-g2]at NY m9
    clear g2
    generalize dW c3.ws x'.e=wz at g1 g3 oE BI NY m9
    have Uc:=(IJ.trans sl).trans sE
    have NZ:=(Ub.trans Uc) _ _ NT
    have IK:=II g3
    have WL:=g3.jQ
    obtain ⟨⟨Iv,Tw,WM,Ud,Zc⟩,_⟩:=id g1
    have ly:PyData.canLayAll0 (ph (ws.map az))=true:=uL fun l vh c hc=>by
     rw[<-oE]at vh
     obtain ⟨w,hw,rfl⟩:=List.mem_map.mp vh
     exact (yK (IK w hw).1 c hc).lt
    have dp:(PyData.list (ph (ws.map az))).depth<=60:=by show PyData.depthAll (ph (ws.map az))+1<=60;rw[nQ];decide
    refine ⟨_,rfl,Fo,_,_,_,rfl,rfl,aW.of WM,aM (j:=0) rfl,Iv,rfl,⟨_,aW.of Ud⟩,?_⟩
    refine qq (K:=K) (a:=Iv) (xs:=bX wz) (fun i acc H'=>ah HE H'/\acc=bX ((wz.take i).map az)) (by rw[aS];omega) (fun i acc H' h=>aW.of (h.1 _ _ Ud)) ⟨ah.refl _,rfl⟩ ?_ ?_
    ·rintro i x acc H6 Nx hi hx gA ⟨s6,rfl⟩ nx
     obtain ⟨w,hw,rfl⟩:=uW hx
     have HX:=IK w (List.mem_of_getElem? hw)
     refine ⟨trivial,jk ?_⟩
     refine ⟨_,rfl,w,rfl,HX.1,by omega,fun H7 s7=>nx _ _ (by simpa using gA) ⟨s6.trans s7,?_⟩⟩
     rw[lG, <-take_snoc hw,List.map_append]
     rfl
    rintro acc HF D gA ⟨sF,rfl⟩ nD
    rw[aS,List.take_length,oE]
    have IL:=sF.trans (ah.upd (o:=HO.lst (bX (ws.map az))) nD)
    have hD:upd HF D (HO.lst (bX (ws.map az))) D=some (HO.lst (bX (ws.map az))):=ae
    generalize upd HF D (HO.lst (bX (ws.map az)))=HH at IL hD ⊢
    refine ⟨_,rfl, .list (ph (ws.map az)), .list (ph (ws.map az)), .lst (aT.of hD) (jo _), .lst (aT.of (IL _ _ NZ)) (jo _),⟨ly,ly⟩,dp,?_⟩
    rw[eqv_refl (.list (ph (ws.map az))) (show PyData.hasDictAll (ph (ws.map az))=false from mv _)]
    refine ⟨_,rfl,dq rfl ?_⟩
    refine ⟨_,rfl,_,rfl,y,Fo,wz,BH,rfl,hy,by omega,g3.ws,g1.same IL,g3.os,fun HI sI=>?_⟩
    refine ⟨_,_,rfl,rfl,_,rfl,dq rfl ?_⟩
    exact ⟨⟨Fo,wz,BH⟩,_,rfl,⟨(g1.same IL).same sI,g3,BI,oE⟩,NY,m9,(Uc.trans IL).trans sI⟩
   ·rintro σ HD ⟨c3,WK,rfl,CU,CQ,m9,IJ⟩
    rw[List.drop_eq_nil_of_le (by rw[bZ,List.length_map];exact Nat.le_refl _)]at m9
    have r1:c3.ws=gl.ws:=congrArg Prod.fst m9
    have r2:c3.os.map bg=gl.os.map bg:=congrArg Prod.snd m9
    have WN:mI K HD (.ref c3.a) (Ce gl.ws (gl.os.map bg)):=by rw[<-r1, <-r2];exact ou CU.dr
    refine ⟨_,rfl,_,rfl,_,_,WN,ou (tX.dr.same (KP.trans IJ)),⟨Ae.ly,Ae.ly⟩,Nat.le_trans Ae.dp (by decide),_,rfl,dq (by rw[eqv_refl _ (pM _ _)];rfl) ?_⟩
    refine ⟨c3,_,_,_,rfl,CU,fun m' Zd Ze x8=>?_,Ub.trans IJ⟩
    have em:m'=n:=by omega
    rw[em,FD]at x8
    cases x8
    exact ⟨r1,r2⟩
  ·rintro σ HA ⟨c2,gv,NU,dv,rfl,mH,IM,KO⟩
   obtain ⟨l1,l2⟩:=IM 2 ⟨dr,ws,os⟩ rfl rfl
   replace l1:c2.ws=ws:=l1
   replace l2:c2.os.map bg=os.map bg:=l2
   have hf:=pT.same (NS.trans KO)
   have Ae:=zh hy (by omega) hf.dr hg
   have rm:mI K HA (.ref c2.a) (Ce ws (os.map bg)):=by rw[<-l1, <-l2];exact ou mH.dr
   refine ⟨_,rfl,_,rfl,_,_,rm,ou hf.dr,⟨Ae.ly,Ae.ly⟩,Nat.le_trans Ae.dp (by decide),?_⟩
   rw[eqv_refl _ (pM _ _)]
   exact q _
end
theorem cy {M:List Value->Prop} (h:M []): ∀us:List Value,us.length=0->M us
 | [],_=>h
theorem aR {M:List Value->Prop} {n:Nat} (h: ∀(a:Value) (us:List Value),us.length=n->M (a::us)): ∀us:List Value,us.length=n+1->M us
 | a::us,e=>h a us (Nat.succ.inj e)
theorem all_mk {l:PySem.W.OpenLaw} {w:World} {K:PySem.W.Frag} {h:Heap} {mg:Str->Option Value} {fa f0 f1 f2 f3 f4 f5 f6 f7 f8 f9 Cf Cg Ci Cj Ck Cm Cn Co Cp Cq Cr Cs Ct Cu Cv Cw Cy Cz CA CB CC CD CF CG CH CI CJ:Addr} (X:K.In h) (G:h.Ns mainGlobals mg) (WO:mg "law"=some (.ref fa))
  {WQ WR WS WT WU WV WW WX WY WZ W0 W3 W4 W5 W6 W7 W8 W9 W_ Xa N0 N1 N2 N3 N4 N5 N6 N7 N8 N9 N_ Oa Ob Oc Oe Of Og Oh Oi Oj Ol Om Oo Oq Ot Ou Ov Ow Ox Oy Oz OA OB OC OD OE OF OG OH OI OJ OK OL OM ON OO OP OQ OR OS OT OU OV OW:Option Addr} {Xb Xc JA Xd Xe Xf Xg Xh Xi Xj OX OY OZ O0 O1 O2 O3 O4 O5 O6 O7 O8 O9 O_ Pa Pb Pc Pd Pe Pf Pg Ph Pj Pk Pl Pn Po:Array (Option Value)} {Xk Xl Xm Xn Ue Xo Xp Xq Xr Nm Ug Xs Xt Xu Xv KD Uh Xw Xx Xy Xz XA Ui XB XC XD XE XF Uj XG XH XI XJ XM Uk XN XO XQ XR XS Ul XT XU XW XX XY Um XZ X0 X1 X2 X3 Uo X4 X5 X6 X7 X8 Up X9 Pp Pu Pw Px IQ Py Pz PB PD PH IS PJ PK PL PM PN IU PQ PR PU PV PZ IV P0 P4 P5 P6 P7 IW P8 P9 P_ Qa Qb IX Qc Qd Qe Qf Qg IZ Qh Qi Qj Qk Ql I_ Qm Qn Qo Qp Qq Ja Qr Qs Qt Qu Qv Jb Qw Qx Qy Qz QA Jc QB QC QD QE QF Jd QG QH QI QJ QK Je QL QM QN QO QP Jf QQ QR QS QT QU Jg QV QW QX QY QZ Jh Q0 Q1 Q2 Q3 Q4 Ji Q5 Q6 Q7 Q8 Q9 Jj Q_ Ra Rb Rc Rf Jk Rg Rh Ri Rj Rk Jl Rl Rm Rn Ro Rp Jm Rq Rr Rt Ru Rv Jn Rw Rx Ry Rz RA Jo RB RC RD RE RF Jp RG RH RI RJ RK Jq RL RM RN RO RP Jr RQ RS RT RU RV Js RW:Value}
  (a0:PySem.W.nsIn K mainGlobals "contrary"=some (some (.ref f0)))
  (l0:K.lookup f0=some ⟨Xk,WQ, .func (PySem.W.fnOf "contrary" "contrary" (aK dA) (aJ dA) (aj dA) .none Xl Xm Xn WR Ue Xo),Xb⟩)
  (c0:PySem.W.codeIn K Ue "contrary"=true)
  (k0:PySem.W.keepIn K (.ref f0)=true)
  (a1:PySem.W.nsIn K mainGlobals "foreign_sign"=some (some (.ref f1)))
  (l1:K.lookup f1=some ⟨Xp,WS, .func (PySem.W.fnOf "foreign_sign" "foreign_sign" (aK cb) (aJ cb) (aj cb) .none Xq Xr Nm WT Ug Xs),Xc⟩)
  (c1:PySem.W.codeIn K Ug "foreign_sign"=true)
  (k1:PySem.W.keepIn K (.ref f1)=true)
  (a2:PySem.W.nsIn K mainGlobals "bands"=some (some (.ref f2)))
  (l2:K.lookup f2=some ⟨Xt,WU, .func (PySem.W.fnOf "bands" "bands" (aK hW) (aJ hW) (aj hW) .none Xu Xv KD WV Uh Xw),JA⟩)
  (c2:PySem.W.codeIn K Uh "bands"=true)
  (k2:PySem.W.keepIn K (.ref f2)=true)
  (a3:PySem.W.nsIn K mainGlobals "renumber"=some (some (.ref f3)))
  (l3:K.lookup f3=some ⟨Xx,WW, .func (PySem.W.fnOf "renumber" "renumber" (aK dB) (aJ dB) (aj dB) .none Xy Xz XA WX Ui XB),Xd⟩)
  (c3:PySem.W.codeIn K Ui "renumber"=true)
  (k3:PySem.W.keepIn K (.ref f3)=true)
  (a4:PySem.W.nsIn K mainGlobals "do_swap"=some (some (.ref f4)))
  (l4:K.lookup f4=some ⟨XC,WY, .func (PySem.W.fnOf "do_swap" "do_swap" (aK eI) (aJ eI) (aj eI) .none XD XE XF WZ Uj XG),Xe⟩)
  (c4:PySem.W.codeIn K Uj "do_swap"=true)
  (k4:PySem.W.keepIn K (.ref f4)=true)
  (a5:PySem.W.nsIn K mainGlobals "do_out"=some (some (.ref f5)))
  (l5:K.lookup f5=some ⟨XH,W0, .func (PySem.W.fnOf "do_out" "do_out" (aK fH) (aJ fH) (aj fH) .none XI XJ XM W3 Uk XN),Xf⟩)
  (c5:PySem.W.codeIn K Uk "do_out"=true)
  (k5:PySem.W.keepIn K (.ref f5)=true)
  (a6:PySem.W.nsIn K mainGlobals "do_in"=some (some (.ref f6)))
  (l6:K.lookup f6=some ⟨XO,W4, .func (PySem.W.fnOf "do_in" "do_in" (aK hZ) (aJ hZ) (aj hZ) .none XQ XR XS W5 Ul XT),Xg⟩)
  (c6:PySem.W.codeIn K Ul "do_in"=true)
  (k6:PySem.W.keepIn K (.ref f6)=true)
  (a7:PySem.W.nsIn K mainGlobals "do_turn"=some (some (.ref f7)))
  (l7:K.lookup f7=some ⟨XU,W6, .func (PySem.W.fnOf "do_turn" "do_turn" (aK eJ) (aJ eJ) (aj eJ) .none XW XX XY W7 Um XZ),Xh⟩)
  (c7:PySem.W.codeIn K Um "do_turn"=true)
  (k7:PySem.W.keepIn K (.ref f7)=true)
  (a8:PySem.W.nsIn K mainGlobals "do_deed"=some (some (.ref f8)))
  (l8:K.lookup f8=some ⟨X0,W8, .func (PySem.W.fnOf "do_deed" "do_deed" (aK eK) (aJ eK) (aj eK) .none X1 X2 X3 W9 Uo X4),Xi⟩)
  (c8:PySem.W.codeIn K Uo "do_deed"=true)
  (k8:PySem.W.keepIn K (.ref f8)=true)
  (a9:PySem.W.nsIn K mainGlobals "done"=some (some (.ref f9)))
  (l9:K.lookup f9=some ⟨X5,W_, .func (PySem.W.fnOf "done" "done" (aK jZ) (aJ jZ) (aj jZ) .none X6 X7 X8 Xa Up X9),Xj⟩)
  (c9:PySem.W.codeIn K Up "done"=true)
  (k9:PySem.W.keepIn K (.ref f9)=true)
  (a10:PySem.W.nsIn K mainGlobals "shortened"=some (some (.ref Cf)))
  (l10:K.lookup Cf=some ⟨Pp,N0, .func (PySem.W.fnOf "shortened" "shortened" (aK cX) (aJ cX) (aj cX) .none Pu Pw Px N1 IQ Py),OX⟩)
  (c10:PySem.W.codeIn K IQ "shortened"=true)
  (k10:PySem.W.keepIn K (.ref Cf)=true)
  (a11:PySem.W.nsIn K mainGlobals "shortest"=some (some (.ref Cg)))
  (l11:K.lookup Cg=some ⟨Pz,N2, .func (PySem.W.fnOf "shortest" "shortest" (aK dD) (aJ dD) (aj dD) .none PB PD PH N3 IS PJ),OY⟩)
  (c11:PySem.W.codeIn K IS "shortest"=true)
  (k11:PySem.W.keepIn K (.ref Cg)=true)
  (a12:PySem.W.nsIn K mainGlobals "ring"=some (some (.ref Ci)))
  (l12:K.lookup Ci=some ⟨PK,N4, .func (PySem.W.fnOf "ring" "ring" (aK j0) (aJ j0) (aj j0) .none PL PM PN N5 IU PQ),OZ⟩)
  (c12:PySem.W.codeIn K IU "ring"=true)
  (k12:PySem.W.keepIn K (.ref Ci)=true)
  (a13:PySem.W.nsIn K mainGlobals "are_one"=some (some (.ref Cj)))
  (l13:K.lookup Cj=some ⟨PR,N6, .func (PySem.W.fnOf "are_one" "are_one" (aK eN) (aJ eN) (aj eN) .none PU PV PZ N7 IV P0),O0⟩)
  (c13:PySem.W.codeIn K IV "are_one"=true)
  (k13:PySem.W.keepIn K (.ref Cj)=true)
  (a14:PySem.W.nsIn K mainGlobals "pairs_out"=some (some (.ref Ck)))
  (l14:K.lookup Ck=some ⟨P4,N8, .func (PySem.W.fnOf "pairs_out" "pairs_out" (aK cY) (aJ cY) (aj cY) .none P5 P6 P7 N9 IW P8),O1⟩)
  (c14:PySem.W.codeIn K IW "pairs_out"=true)
  (k14:PySem.W.keepIn K (.ref Ck)=true)
  (a15:PySem.W.nsIn K mainGlobals "way_down"=some (some (.ref Cm)))
  (l15:K.lookup Cm=some ⟨P9,N_, .func (PySem.W.fnOf "way_down" "way_down" (aK dE) (aJ dE) (aj dE) .none P_ Qa Qb Oa IX Qc),O2⟩)
  (c15:PySem.W.codeIn K IX "way_down"=true)
  (k15:PySem.W.keepIn K (.ref Cm)=true)
  (a16:PySem.W.nsIn K mainGlobals "way_up"=some (some (.ref Cn)))
  (l16:K.lookup Cn=some ⟨Qd,Ob, .func (PySem.W.fnOf "way_up" "way_up" (aK fI) (aJ fI) (aj fI) .none Qe Qf Qg Oc IZ Qh),O3⟩)
  (c16:PySem.W.codeIn K IZ "way_up"=true)
  (k16:PySem.W.keepIn K (.ref Cn)=true)
  (a17:PySem.W.nsIn K mainGlobals "turns_between"=some (some (.ref Co)))
  (l17:K.lookup Co=some ⟨Qi,Oe, .func (PySem.W.fnOf "turns_between" "turns_between" (aK bS) (aJ bS) (aj bS) .none Qj Qk Ql Of I_ Qm),O4⟩)
  (c17:PySem.W.codeIn K I_ "turns_between"=true)
  (k17:PySem.W.keepIn K (.ref Co)=true)
  (a18:PySem.W.nsIn K mainGlobals "word_road"=some (some (.ref Cp)))
  (l18:K.lookup Cp=some ⟨Qn,Og, .func (PySem.W.fnOf "word_road" "word_road" (aK cZ) (aJ cZ) (aj cZ) .none Qo Qp Qq Oh Ja Qr),O5⟩)
  (c18:PySem.W.codeIn K Ja "word_road"=true)
  (k18:PySem.W.keepIn K (.ref Cp)=true)
  (a19:PySem.W.nsIn K mainGlobals "order_road"=some (some (.ref Cq)))
  (l19:K.lookup Cq=some ⟨Qs,Oi, .func (PySem.W.fnOf "order_road" "order_road" (aK cD) (aJ cD) (aj cD) .none Qt Qu Qv Oj Jb Qw),O6⟩)
  (c19:PySem.W.codeIn K Jb "order_road"=true)
  (k19:PySem.W.keepIn K (.ref Cq)=true)
  (a20:PySem.W.nsIn K mainGlobals "same_cords"=some (some (.ref Cr)))
  (l20:K.lookup Cr=some ⟨Qx,Ol, .func (PySem.W.fnOf "same_cords" "same_cords" (aK cE) (aJ cE) (aj cE) .none Qy Qz QA Om Jc QB),O7⟩)
  (c20:PySem.W.codeIn K Jc "same_cords"=true)
  (k20:PySem.W.keepIn K (.ref Cr)=true)
  (a21:PySem.W.nsIn K mainGlobals "road"=some (some (.ref Cs)))
  (l21:K.lookup Cs=some ⟨QC,Oo, .func (PySem.W.fnOf "road" "road" (aK j3) (aJ j3) (aj j3) .none QD QE QF Oq Jd QG),O8⟩)
  (c21:PySem.W.codeIn K Jd "road"=true)
  (k21:PySem.W.keepIn K (.ref Cs)=true)
  (a22:PySem.W.nsIn K mainGlobals "strands_in"=some (some (.ref Ct)))
  (l22:K.lookup Ct=some ⟨QH,Ot, .func (PySem.W.fnOf "strands_in" "strands_in" (aK cF) (aJ cF) (aj cF) .none QI QJ QK Ou Je QL),O9⟩)
  (c22:PySem.W.codeIn K Je "strands_in"=true)
  (k22:PySem.W.keepIn K (.ref Ct)=true)
  (a23:PySem.W.nsIn K mainGlobals "look_words"=some (some (.ref Cu)))
  (l23:K.lookup Cu=some ⟨QM,Ov, .func (PySem.W.fnOf "look_words" "look_words" (aK cG) (aJ cG) (aj cG) .none QN QO QP Ow Jf QQ),O_⟩)
  (c23:PySem.W.codeIn K Jf "look_words"=true)
  (k23:PySem.W.keepIn K (.ref Cu)=true)
  (a24:PySem.W.nsIn K mainGlobals "look_orders"=some (some (.ref Cv)))
  (l24:K.lookup Cv=some ⟨QR,Ox, .func (PySem.W.fnOf "look_orders" "look_orders" (aK cq) (aJ cq) (aj cq) .none QS QT QU Oy Jg QV),Pa⟩)
  (c24:PySem.W.codeIn K Jg "look_orders"=true)
  (k24:PySem.W.keepIn K (.ref Cv)=true)
  (a25:PySem.W.nsIn K mainGlobals "look_drawing"=some (some (.ref Cw)))
  (l25:K.lookup Cw=some ⟨QW,Oz, .func (PySem.W.fnOf "look_drawing" "look_drawing" (aK cf) (aJ cf) (aj cf) .none QX QY QZ OA Jh Q0),Pb⟩)
  (c25:PySem.W.codeIn K Jh "look_drawing"=true)
  (k25:PySem.W.keepIn K (.ref Cw)=true)
  (a26:PySem.W.nsIn K mainGlobals "_law_box"=some (some (.ref Cy)))
  (l26:K.lookup Cy=some ⟨Q1,OB, .func (PySem.W.fnOf "_law_box" "_law_box" (aK j4) (aJ j4) (aj j4) .none Q2 Q3 Q4 OC Ji Q5),Pc⟩)
  (c26:PySem.W.codeIn K Ji "_law_box"=true)
  (k26:PySem.W.keepIn K (.ref Cy)=true)
  (a27:PySem.W.nsIn K mainGlobals "_law_take"=some (some (.ref Cz)))
  (l27:K.lookup Cz=some ⟨Q6,OD, .func (PySem.W.fnOf "_law_take" "_law_take" (aK h7) (aJ h7) (aj h7) .none Q7 Q8 Q9 OE Jj Q_),Pd⟩)
  (c27:PySem.W.codeIn K Jj "_law_take"=true)
  (k27:PySem.W.keepIn K (.ref Cz)=true)
  (a28:PySem.W.nsIn K mainGlobals "_law_other"=some (some (.ref CA)))
  (l28:K.lookup CA=some ⟨Ra,OF, .func (PySem.W.fnOf "_law_other" "_law_other" (aK fJ) (aJ fJ) (aj fJ) .none Rb Rc Rf OG Jk Rg),Pe⟩)
  (c28:PySem.W.codeIn K Jk "_law_other"=true)
  (k28:PySem.W.keepIn K (.ref CA)=true)
  (a29:PySem.W.nsIn K mainGlobals "_law_yard"=some (some (.ref CB)))
  (l29:K.lookup CB=some ⟨Rh,OH, .func (PySem.W.fnOf "_law_yard" "_law_yard" (aK h_) (aJ h_) (aj h_) .none Ri Rj Rk OI Jl Rl),Pf⟩)
  (c29:PySem.W.codeIn K Jl "_law_yard"=true)
  (k29:PySem.W.keepIn K (.ref CB)=true)
  (a30:PySem.W.nsIn K mainGlobals "_law_word"=some (some (.ref CC)))
  (l30:K.lookup CC=some ⟨Rm,OJ, .func (PySem.W.fnOf "_law_word" "_law_word" (aK ia) (aJ ia) (aj ia) .none Rn Ro Rp OK Jm Rq),Pg⟩)
  (c30:PySem.W.codeIn K Jm "_law_word"=true)
  (k30:PySem.W.keepIn K (.ref CC)=true)
  (a31:PySem.W.nsIn K mainGlobals "_law_order"=some (some (.ref CD)))
  (l31:K.lookup CD=some ⟨Rr,OL, .func (PySem.W.fnOf "_law_order" "_law_order" (aK fK) (aJ fK) (aj fK) .none Rt Ru Rv OM Jn Rw),Ph⟩)
  (c31:PySem.W.codeIn K Jn "_law_order"=true)
  (k31:PySem.W.keepIn K (.ref CD)=true)
  (a32:PySem.W.nsIn K mainGlobals "_law_bands"=some (some (.ref CF)))
  (l32:K.lookup CF=some ⟨Rx,ON, .func (PySem.W.fnOf "_law_bands" "_law_bands" (aK fL) (aJ fL) (aj fL) .none Ry Rz RA OO Jo RB),Pj⟩)
  (c32:PySem.W.codeIn K Jo "_law_bands"=true)
  (k32:PySem.W.keepIn K (.ref CF)=true)
  (a33:PySem.W.nsIn K mainGlobals "_law_drawing"=some (some (.ref CG)))
  (l33:K.lookup CG=some ⟨RC,OP, .func (PySem.W.fnOf "_law_drawing" "_law_drawing" (aK dF) (aJ dF) (aj dF) .none RD RE RF OQ Jp RG),Pk⟩)
  (c33:PySem.W.codeIn K Jp "_law_drawing"=true)
  (k33:PySem.W.keepIn K (.ref CG)=true)
  (a34:PySem.W.nsIn K mainGlobals "_law_words"=some (some (.ref CH)))
  (l34:K.lookup CH=some ⟨RH,OR, .func (PySem.W.fnOf "_law_words" "_law_words" (aK fM) (aJ fM) (aj fM) .none RI RJ RK OS Jq RL),Pl⟩)
  (c34:PySem.W.codeIn K Jq "_law_words"=true)
  (k34:PySem.W.keepIn K (.ref CH)=true)
  (a35:PySem.W.nsIn K mainGlobals "_law_deed"=some (some (.ref CI)))
  (l35:K.lookup CI=some ⟨RM,OT, .func (PySem.W.fnOf "_law_deed" "_law_deed" (aK ib) (aJ ib) (aj ib) .none RN RO RP OU Jr RQ),Pn⟩)
  (c35:PySem.W.codeIn K Jr "_law_deed"=true)
  (k35:PySem.W.keepIn K (.ref CI)=true)
  (a36:PySem.W.nsIn K mainGlobals "law"=some (some (.ref CJ)))
  (l36:K.lookup CJ=some ⟨RS,OV, .func (PySem.W.fnOf "law" "law" (aK ow) (aJ ow) (aj ow) .none RT RU RV OW Js RW),Po⟩)
  (c36:PySem.W.codeIn K Js "law"=true)
  (k36:PySem.W.keepIn K (.ref CJ)=true)
  (z_all:PySem.W.nsIn K mainGlobals "all"=some none)
  (z_enumerate:PySem.W.nsIn K mainGlobals "enumerate"=some none)
  (z_int:PySem.W.nsIn K mainGlobals "int"=some none)
  (z_len:PySem.W.nsIn K mainGlobals "len"=some none)
  (z_list:PySem.W.nsIn K mainGlobals "list"=some none)
  (z_max:PySem.W.nsIn K mainGlobals "max"=some none)
  (z_min:PySem.W.nsIn K mainGlobals "min"=some none)
  (z_range:PySem.W.nsIn K mainGlobals "range"=some none)
  (z_reversed:PySem.W.nsIn K mainGlobals "reversed"=some none)
  (z_sorted:PySem.W.nsIn K mainGlobals "sorted"=some none)
  (z_tuple:PySem.W.nsIn K mainGlobals "tuple"=some none)
  (z_zip:PySem.W.nsIn K mainGlobals "zip"=some none):
  ∃fd:FuncData,(∀(s:Shared) (v:Value),BindsTo s fd ⟨[v],[]⟩ [("_law_script",v)])/\ ∀base:Heap,K.In base->base.Ns mainGlobals mg->bQ l.prog w K mg base fk 8 fa fd ["_law_script"] (jK K):=by
 have e:=WO.symm.trans (PySem.W.mg_of X G a36)
 cases e
 have F0:=aY (st:=dA) l0 c0 k0
 have b0:=F0.binds (ps:=["letter"]) fun _ _ _ _ _ _=>aR fun _=>cy rfl
 have F1:=aY (st:=cb) l1 c1 k1
 have b1:=F1.binds (ps:=["yard","text"]) fun _ _ _ _ _ _=>aR fun _=>aR fun _=>cy rfl
 have F2:=aY (st:=hW) l2 c2 k2
 have b2:=F2.binds (ps:=["yard"]) fun _ _ _ _ _ _=>aR fun _=>cy rfl
 have F3:=aY (st:=dB) l3 c3 k3
 have b3:=F3.binds (ps:=["orders","cord","places"]) fun _ _ _ _ _ _=>aR fun _=>aR fun _=>aR fun _=>cy rfl
 have F4:=aY (st:=eI) l4 c4 k4
 have b4:=F4.binds (ps:=["orders","band","number"]) fun _ _ _ _ _ _=>aR fun _=>aR fun _=>aR fun _=>cy rfl
 have F5:=aY (st:=fH) l5 c5 k5
 have b5:=F5.binds (ps:=["words","orders","cord","place"]) fun _ _ _ _ _ _=>aR fun _=>aR fun _=>aR fun _=>aR fun _=>cy rfl
 have F6:=aY (st:=hZ) l6 c6 k6
 have b6:=F6.binds (ps:=["words","orders","cord","place","letter","number"]) fun _ _ _ _ _ _=>aR fun _=>aR fun _=>aR fun _=>aR fun _=>aR fun _=>aR fun _=>cy rfl
 have F7:=aY (st:=eJ) l7 c7 k7
 have b7:=F7.binds (ps:=["words","orders","cord"]) fun _ _ _ _ _ _=>aR fun _=>aR fun _=>aR fun _=>cy rfl
 have F8:=aY (st:=eK) l8 c8 k8
 have b8:=F8.binds (ps:=["yard","words","orders","deed"]) fun _ _ _ _ _ _=>aR fun _=>aR fun _=>aR fun _=>aR fun _=>cy rfl
 have F9:=aY (st:=jZ) l9 c9 k9
 have b9:=F9.binds (ps:=["yard","drawing","deeds"]) fun _ _ _ _ _ _=>aR fun _=>aR fun _=>aR fun _=>cy rfl
 have wY:=aY (st:=cX) l10 c10 k10
 have X_:=wY.binds (ps:=["word"]) fun _ _ _ _ _ _=>aR fun _=>cy rfl
 have pN:=aY (st:=dD) l11 c11 k11
 have Ya:=pN.binds (ps:=["word"]) fun _ _ _ _ _ _=>aR fun _=>cy rfl
 have rH:=aY (st:=j0) l12 c12 k12
 have Yb:=rH.binds (ps:=["word"]) fun _ _ _ _ _ _=>aR fun _=>cy rfl
 have Ew:=aY (st:=eN) l13 c13 k13
 have Yc:=Ew.binds (ps:=["one","other"]) fun _ _ _ _ _ _=>aR fun _=>aR fun _=>cy rfl
 have zW:=aY (st:=cY) l14 c14 k14
 have Ye:=zW.binds (ps:=["word"]) fun _ _ _ _ _ _=>aR fun _=>cy rfl
 have Ex:=aY (st:=dE) l15 c15 k15
 have Yf:=Ex.binds (ps:=["cord","word"]) fun _ _ _ _ _ _=>aR fun _=>aR fun _=>cy rfl
 have Ey:=aY (st:=fI) l16 c16 k16
 have Yg:=Ey.binds (ps:=["cord","word"]) fun _ _ _ _ _ _=>aR fun _=>aR fun _=>cy rfl
 have Ez:=aY (st:=bS) l17 c17 k17
 have Yh:=Ez.binds (ps:=["one","other"]) fun _ _ _ _ _ _=>aR fun _=>aR fun _=>cy rfl
 have EA:=aY (st:=cZ) l18 c18 k18
 have Yi:=EA.binds (ps:=["cord","one","other"]) fun _ _ _ _ _ _=>aR fun _=>aR fun _=>aR fun _=>cy rfl
 have EB:=aY (st:=cD) l19 c19 k19
 have Yj:=EB.binds (ps:=["band","one","other"]) fun _ _ _ _ _ _=>aR fun _=>aR fun _=>aR fun _=>cy rfl
 have EC:=aY (st:=cE) l20 c20 k20
 have Yk:=EC.binds (ps:=["one","other"]) fun _ _ _ _ _ _=>aR fun _=>aR fun _=>cy rfl
 have ED:=aY (st:=j3) l21 c21 k21
 have Yl:=ED.binds (ps:=["yard","one","other"]) fun _ _ _ _ _ _=>aR fun _=>aR fun _=>aR fun _=>cy rfl
 have EE:=aY (st:=cF) l22 c22 k22
 have Ym:=EE.binds (ps:=["words","band"]) fun _ _ _ _ _ _=>aR fun _=>aR fun _=>cy rfl
 have EF:=aY (st:=cG) l23 c23 k23
 have Yn:=EF.binds (ps:=["yard","words"]) fun _ _ _ _ _ _=>aR fun _=>aR fun _=>cy rfl
 have EG:=aY (st:=cq) l24 c24 k24
 have Yo:=EG.binds (ps:=["yard","words","orders"]) fun _ _ _ _ _ _=>aR fun _=>aR fun _=>aR fun _=>cy rfl
 have EH:=aY (st:=cf) l25 c25 k25
 have Yp:=EH.binds (ps:=["yard","drawing"]) fun _ _ _ _ _ _=>aR fun _=>aR fun _=>cy rfl
 have wZ:=aY (st:=j4) l26 c26 k26
 have Yq:=wZ.binds (ps:=["_law_script","_law_k"]) fun _ _ _ _ _ _=>aR fun _=>aR fun _=>cy rfl
 have dU:=aY (st:=h7) l27 c27 k27
 have Yr:=dU.binds (ps:=["_law_box_here","_law_many"]) fun _ _ _ _ _ _=>aR fun _=>aR fun _=>cy rfl
 have rJ:=aY (st:=fJ) l28 c28 k28
 have Ys:=rJ.binds (ps:=["_law_letter"]) fun _ _ _ _ _ _=>aR fun _=>cy rfl
 have EI:=aY (st:=h_) l29 c29 k29
 have Yt:=EI.binds (ps:=["_law_box_here","_law_few","_law_top"]) fun _ _ _ _ _ _=>aR fun _=>aR fun _=>aR fun _=>cy rfl
 have EJ:=aY (st:=ia) l30 c30 k30
 have Yu:=EJ.binds (ps:=["_law_box_here","_law_yard_here","_law_top"]) fun _ _ _ _ _ _=>aR fun _=>aR fun _=>aR fun _=>cy rfl
 have EK:=aY (st:=fK) l31 c31 k31
 have Yv:=EK.binds (ps:=["_law_box_here","_law_things"]) fun _ _ _ _ _ _=>aR fun _=>aR fun _=>cy rfl
 have zX:=aY (st:=fL) l32 c32 k32
 have Yw:=zX.binds (ps:=["_law_yard_here"]) fun _ _ _ _ _ _=>aR fun _=>cy rfl
 have EL:=aY (st:=dF) l33 c33 k33
 have Yx:=EL.binds (ps:=["_law_box_here","_law_yard_here","_law_words_here"]) fun _ _ _ _ _ _=>aR fun _=>aR fun _=>aR fun _=>cy rfl
 have EM:=aY (st:=fM) l34 c34 k34
 have Yy:=EM.binds (ps:=["_law_box_here","_law_yard_here"]) fun _ _ _ _ _ _=>aR fun _=>aR fun _=>cy rfl
 have EN:=aY (st:=ib) l35 c35 k35
 have Yz:=EN.binds (ps:=["_law_box_here","_law_yard_here","_law_drawing_here"]) fun _ _ _ _ _ _=>aR fun _=>aR fun _=>aR fun _=>cy rfl
 have Kp:=aY (st:=ow) l36 c36 k36
 have YA:=Kp.binds (ps:=["_law_script"]) fun _ _ _ _ _ _=>aR fun _=>cy rfl
 have T:Txt K mg _ _ _ _ _ _ _ _ _ _ _ _ _ _ _ _ _ _ _ _ _ _ _ _ _ _ _ _ _ _ _ _ _ _ _ _ _ _ _ _ _ _ _ _ _ _ _ _ _ _ _ _ _ _ _ _ _ _ _ _ _ _ _ _ _ _ _ _ _ _ _ _ _ _:=⟨⟨F0,PySem.W.mg_of X G a0,b0⟩,⟨F1,PySem.W.mg_of X G a1,b1⟩,⟨F2,PySem.W.mg_of X G a2,b2⟩,⟨F3,PySem.W.mg_of X G a3,b3⟩,⟨F4,PySem.W.mg_of X G a4,b4⟩,⟨F5,PySem.W.mg_of X G a5,b5⟩,⟨F6,PySem.W.mg_of X G a6,b6⟩,⟨F7,PySem.W.mg_of X G a7,b7⟩,⟨F8,PySem.W.mg_of X G a8,b8⟩,⟨F9,PySem.W.mg_of X G a9,b9⟩,⟨wY,PySem.W.mg_of X G a10,X_⟩,⟨pN,PySem.W.mg_of X G a11,Ya⟩,⟨rH,PySem.W.mg_of X G a12,Yb⟩,⟨Ew,PySem.W.mg_of X G a13,Yc⟩,⟨zW,PySem.W.mg_of X G a14,Ye⟩,⟨Ex,PySem.W.mg_of X G a15,Yf⟩,⟨Ey,PySem.W.mg_of X G a16,Yg⟩,⟨Ez,PySem.W.mg_of X G a17,Yh⟩,⟨EA,PySem.W.mg_of X G a18,Yi⟩,⟨EB,PySem.W.mg_of X G a19,Yj⟩,⟨EC,PySem.W.mg_of X G a20,Yk⟩,⟨ED,PySem.W.mg_of X G a21,Yl⟩,⟨EE,PySem.W.mg_of X G a22,Ym⟩,⟨EF,PySem.W.mg_of X G a23,Yn⟩,⟨EG,PySem.W.mg_of X G a24,Yo⟩,⟨EH,PySem.W.mg_of X G a25,Yp⟩,⟨wZ,PySem.W.mg_of X G a26,Yq⟩,⟨dU,PySem.W.mg_of X G a27,Yr⟩,⟨rJ,PySem.W.mg_of X G a28,Ys⟩,⟨EI,PySem.W.mg_of X G a29,Yt⟩,⟨EJ,PySem.W.mg_of X G a30,Yu⟩,⟨EK,PySem.W.mg_of X G a31,Yv⟩,⟨zX,PySem.W.mg_of X G a32,Yw⟩,⟨EL,PySem.W.mg_of X G a33,Yx⟩,⟨EM,PySem.W.mg_of X G a34,Yy⟩,⟨EN,PySem.W.mg_of X G a35,Yz⟩,⟨Kp,PySem.W.mg_of X G a36,YA⟩,PySem.W.mg_none_of X G z_all,PySem.W.mg_none_of X G z_enumerate,PySem.W.mg_none_of X G z_int,PySem.W.mg_none_of X G z_len,PySem.W.mg_none_of X G z_list,PySem.W.mg_none_of X G z_max,PySem.W.mg_none_of X G z_min,PySem.W.mg_none_of X G z_range,PySem.W.mg_none_of X G z_reversed,PySem.W.mg_none_of X G z_sorted,PySem.W.mg_none_of X G z_tuple,PySem.W.mg_none_of X G z_zip⟩
 exact ⟨_,fun s v=> .of_eq rfl,fun base _ _=>Fm T⟩
theorem walk {l:PySem.W.OpenLaw} {q:Program} {loose:List Str} {XP:(Str->Option Value)->Heap->Prop} {YP:World->Heap->Prop} {d:DefRec} {K:Params->PySem.W.Frag} (hn:l.most=some 63) (GL:d.params.defaults=[])
  (hY: ∀(w:World) (h:Heap),YP w h->(K w.params).In h)
  (F: ∀(w:World) (mg:Str->Option Value) (fa:Addr) (h:Heap),(K w.params).In h->h.Ns mainGlobals mg->mg d.name=some (.ref fa)->
   ∃fd:FuncData,(∀(s:Shared) (u:Value),BindsTo s fd ⟨[u],[]⟩ [("_law_script",u)])/\ ∀base:Heap,(K w.params).In base->base.Ns mainGlobals mg->bQ l.prog w (K w.params) mg base fk 8 fa fd ["_law_script"] (jK (K w.params))):
  PySem.W.WalkO q loose XP YP l.row.toRowW d [] (fun f vs=>PySem.call f vs):=
 L2.uh (n:=63) (k:=8) (x:="_law_script") (CX:=fun _=>fk) (sp:=fun w=>jK (K w.params)) hn (by decide) GL ⟨rfl,by decide,by decide,rfl⟩ hY F (fun _ _ a ns hl _ hS=>⟨a,ns,rfl,hS,hl,fun _=>rfl⟩) fun _ _ _ _ _ z=>z
end My
namespace PySem.W.Fast
def tw10052753019757140109:=0
def tw10068471803893538910:=0
def tw10082975213595269592:=0
def tw10105232823403985087:=0
def tw10193720957187032942:=0
def tw10198378605684053711:=0
def tw10216690432614528204:=0
def tw102781584942366425:=0
def tw10303104869706846435:=0
def tw10320293893380616672:=0
def tw10422000209043403133:=0
def tw10615469514774238815:=0
def tw106307225214191092:=0
def tw10738920777599964900:=0
def tw10912565530210964917:=0
def tw10936180515191183924:=0
def tw10993664736105648123:=0
def tw11041192091523121611:=0
def tw11203176516103538274:=0
def tw11210553128170517643:=0
def tw11255096334082057491:=0
def tw11356427423209905915:=0
def tw11430753161035183180:=0
def tw11464983300177285029:=0
def tw11501482273637984622:=0
def tw11702902853075877546:=0
def tw11704662671385009273:=0
def tw11718370982136733419:=0
def tw11849203036716497775:=0
def tw11922510752640951339:=0
def tw11952712209531326407:=0
def tw1202654988480613852:=0
def tw12047187302380566731:=0
def tw12053276707498718754:=0
def tw12080042414598056276:=0
def tw1211539780684933523:=0
def tw12196392930168796191:=0
def tw12207559763761987286:=0
def tw12398831828815295912:=0
def tw12454020043464638212:=0
def tw12551235117873425963:=0
def tw12794515620396425185:=0
def tw12904588099787819985:=0
def tw12958403117239741875:=0
def tw13016304555598717781:=0
def tw13046514297987179987:=0
def tw13140544284606232398:=0
def tw13233412836531267740:=0
def tw13271998360359306600:=0
def tw13276540204737187199:=0
def tw13353442799461948370:=0
def tw13389760210319231113:=0
def tw13424684906749653077:=0
def tw13458797057511343040:=0
def tw13486026650132840823:=0
def tw13550561643189484104:=0
def tw13625910089091104501:=0
def tw13646761621446528712:=0
def tw13672209679343803430:=0
def tw13713618046604058451:=0
def tw13836816778586325910:=0
def tw1384024305625852811:=0
def tw13840312052680432356:=0
def tw13855389422628579999:=0
def tw14032726672922776597:=0
def tw14038181914416479300:=0
def tw14114748010633997185:=0
def tw14197865625686783956:=0
def tw14204814322685364983:=0
def tw14248475136975626179:=0
def tw14278169985381524311:=0
def tw14291403304054753029:=0
def tw14298784854914521923:=0
def tw14303314291701131529:=0
def tw14337899159250672602:=0
def tw14352956028455099431:=0
def tw14354423530166197207:=0
def tw14423189777426864058:=0
def tw14467361617247746938:=0
def tw14573303682715083170:=0
def tw14621744136471640952:=0
def tw14623732563270000285:=0
def tw14762014335313686374:=0
def tw14829781469163778734:=0
def tw14834084041118332655:=0
def tw14849468964253881770:=0
def tw1489098212030055610:=0
def tw14972174577212335282:=0
def tw15204137734079865505:=0
def tw15292109263851880579:=0
def tw15358753454596728611:=0
def tw15391165107955861948:=0
def tw1540001484984562676:=0
def tw15435231297871269242:=0
def tw15611263852067873622:=0
def tw15619668620233797646:=0
def tw15776095211605441626:=0
def tw15965690537939139629:=0
def tw16070522916801780486:=0
def tw16094859037470869609:=0
def tw16170986097519615704:=0
def tw16175650429882450838:=0
def tw16206304882145398159:=0
def tw16318896587900416800:=0
def tw16335454236056874815:=0
def tw16406887942300288989:=0
def tw16478192665748145162:=0
def tw16515724739236142897:=0
def tw16528621480125156475:=0
def tw16537784491825273728:=0
def tw16623304106523647073:=0
def tw16757820376831293247:=0
def tw16886944868412921652:=0
def tw16961226275737539699:=0
def tw17085134977255446034:=0
def tw17138993847085762671:=0
def tw17192371749401994114:=0
def tw17237223303471701649:=0
def tw17426079827947012485:=0
def tw1743573470781180782:=0
def tw17549133454873627930:=0
def tw17579175140631046883:=0
def tw1758849920877645487:=0
def tw17621597127750091246:=0
def tw1777210849909285826:=0
def tw17909955671633310032:=0
def tw1812979724974022875:=0
def tw18221445304488859971:=0
def tw18298705665073424217:=0
def tw18322818836619911618:=0
def tw18382424568198797012:=0
def tw18409013043369155371:=0
def tw202796373141994988:=0
def tw2035976901799821504:=0
def tw2172633950250146613:=0
def tw2292157280355577352:=0
def tw2359889793292947839:=0
def tw2383041310438841580:=0
def tw2449541618263118977:=0
def tw2749310877106641047:=0
def tw2761247543145641768:=0
def tw2817526342284073249:=0
def tw2825734866898631936:=0
def tw2826715006416019290:=0
def tw2844229963693393786:=0
def tw2986775318267563060:=0
def tw2995131422378008226:=0
def tw3007151467334796792:=0
def tw3074384973178647141:=0
def tw3080582508216568500:=0
def tw3127553861291539556:=0
def tw3173210722259720859:=0
def tw3209465907191074394:=0
def tw3279065008568160193:=0
def tw3300190719905996426:=0
def tw3406060940185690747:=0
def tw3441435156062735637:=0
def tw3623693028009102648:=0
def tw3662368652151683138:=0
def tw3746987639638820128:=0
def tw382627517687010915:=0
def tw3878009722778631841:=0
def tw3931690658189402411:=0
def tw3933857460851408217:=0
def tw3935258024954054722:=0
def tw3967531753144554735:=0
def tw3982096014380162020:=0
def tw39983611263736168:=0
def tw4007820523236149376:=0
def tw4072721218360192314:=0
def tw409357562386624314:=0
def tw4109496895231499256:=0
def tw4118641147539662023:=0
def tw4170819080461094565:=0
def tw4235927060048045437:=0
def tw424431892380325195:=0
def tw4246796688428992014:=0
def tw4250441715170374839:=0
def tw4327001391520057323:=0
def tw4421531080608061126:=0
def tw4563941163765596024:=0
def tw4565957516410356019:=0
def tw4576658949931490798:=0
def tw4594393702264456638:=0
def tw4623069580422839321:=0
def tw4732462336441270906:=0
def tw4799220258849005422:=0
def tw4877620338456174448:=0
def tw4898587662683335624:=0
def tw4908536577034403919:=0
def tw4927466082892194386:=0
def tw5070733846998867035:=0
def tw5103113193108466423:=0
def tw5116363345159203699:=0
def tw5206114111623579856:=0
def tw5226115668500956542:=0
def tw5227008157997831715:=0
def tw5256635955163841149:=0
def tw5264778227654817883:=0
def tw5403715521599126461:=0
def tw5421552853448941442:=0
def tw5652466423712110525:=0
def tw566727857204337588:=0
def tw5718837903102709852:=0
def tw5720948309336608903:=0
def tw574611579780422913:=0
def tw5786812282295516451:=0
def tw5870474140010718394:=0
def tw5893366430957301612:=0
def tw5927785642426757603:=0
def tw6060318824861019812:=0
def tw6088829963546381748:=0
def tw6090366568263913332:=0
def tw615856981788713554:=0
def tw6220985142682012627:=0
def tw6266702850447360335:=0
def tw6390841432398271241:=0
def tw668786467554110542:=0
def tw6778561601650142580:=0
def tw6902802505184425120:=0
def tw6923506073011022158:=0
def tw7019404622020475445:=0
def tw7080574025903303430:=0
def tw7121175802387471858:=0
def tw7159989111992563160:=0
def tw7235475656808996201:=0
def tw7316625388100825211:=0
def tw738064292107550915:=0
def tw7503167459004138287:=0
def tw7523256744527752487:=0
def tw7547895639426402374:=0
def tw76186337811509210:=0
def tw7622065154494230969:=0
def tw7693343684988146693:=0
def tw7856279033045466425:=0
def tw7932991786678276638:=0
def tw7986517910906686713:=0
def tw8018449898269816153:=0
def tw8133754997060126017:=0
def tw8146755961552652208:=0
def tw824542147229676538:=0
def tw8257865010285176347:=0
def tw8264059336617247583:=0
def tw8303987406774602812:=0
def tw831754161520116983:=0
def tw8361835072444521560:=0
def tw8364949633788750443:=0
def tw8371628976109352063:=0
def tw8558909810137177085:=0
def tw8564225152114726809:=0
def tw8618597058085660120:=0
def tw862236485091895931:=0
def tw8688585689803622515:=0
def tw8705321012244874506:=0
def tw871667448728538716:=0
def tw8725492309140148341:=0
def tw8743735670949923678:=0
def tw875052300517867053:=0
def tw8792214622579472818:=0
def tw8841356437128654160:=0
def tw8850421001403129631:=0
def tw889906974577765627:=0
def tw8907569312869932872:=0
def tw8934988578994561642:=0
def tw8983984358548204677:=0
def tw900983884415333520:=0
def tw9014125255128482175:=0
def tw9166698919247983987:=0
def tw9167010748319552048:=0
def tw9235432051511515220:=0
def tw924598448367210921:=0
def tw9337772327841254023:=0
def tw9403030146696936913:=0
def tw9442067400657744914:=0
def tw9446315229671362376:=0
def tw9559428994779325433:=0
def tw9693867182027758352:=0
def tw9845938264633923725:=0
def tw9907058142010655495:=0
def tw9930048316481742812:=0
def tw9987467582245820510:=0
end PySem.W.Fast
open PySem PySem.W PyProof.Rows
set_option maxRecDepth 100000 in
set_option maxHeartbeats 0 in
theorem PySem.Challenge.cw_mustmeet_k25_whole_roads_put_together_holds : PySem.Challenge.rw_mustmeet_k25_whole_roads_put_together.Holds := by
 w_on;o_law;k_head;(case hw=>w_witness2)
 k_fill
 refine My.walk (l:=PySem.Challenge.rw_mustmeet_k25_whole_roads_put_together) rfl rfl (fun w h Y=>PySem.W.kIn_of Y) ?F
 case F=>
  intro w mg fa h KX G hmg
  refine' My.all_mk KX G hmg ?a0 ?l0 ?c0 ?k0 ?a1 ?l1 ?c1 ?k1 ?a2 ?l2 ?c2 ?k2 ?a3 ?l3 ?c3 ?k3 ?a4 ?l4 ?c4 ?k4 ?a5 ?l5 ?c5 ?k5 ?a6 ?l6 ?c6 ?k6 ?a7 ?l7 ?c7 ?k7 ?a8 ?l8 ?c8 ?k8 ?a9 ?l9 ?c9 ?k9 ?a10 ?l10 ?c10 ?k10 ?a11 ?l11 ?c11 ?k11 ?a12 ?l12 ?c12 ?k12 ?a13 ?l13 ?c13 ?k13 ?a14 ?l14 ?c14 ?k14 ?a15 ?l15 ?c15 ?k15 ?a16 ?l16 ?c16 ?k16 ?a17 ?l17 ?c17 ?k17 ?a18 ?l18 ?c18 ?k18 ?a19 ?l19 ?c19 ?k19 ?a20 ?l20 ?c20 ?k20 ?a21 ?l21 ?c21 ?k21 ?a22 ?l22 ?c22 ?k22 ?a23 ?l23 ?c23 ?k23 ?a24 ?l24 ?c24 ?k24 ?a25 ?l25 ?c25 ?k25 ?a26 ?l26 ?c26 ?k26 ?a27 ?l27 ?c27 ?k27 ?a28 ?l28 ?c28 ?k28 ?a29 ?l29 ?c29 ?k29 ?a30 ?l30 ?c30 ?k30 ?a31 ?l31 ?c31 ?k31 ?a32 ?l32 ?c32 ?k32 ?a33 ?l33 ?c33 ?k33 ?a34 ?l34 ?c34 ?k34 ?a35 ?l35 ?c35 ?k35 ?a36 ?l36 ?c36 ?k36 ?z_all ?z_enumerate ?z_int ?z_len ?z_list ?z_max ?z_min ?z_range ?z_reversed ?z_sorted ?z_tuple ?z_zip
  (case a0=>k_is)
  (case l0=>k_is)
  (case c0=>k_is)
  (case k0=>k_is)
  (case a1=>k_is)
  (case l1=>k_is)
  (case c1=>k_is)
  (case k1=>k_is)
  (case a2=>k_is)
  (case l2=>k_is)
  (case c2=>k_is)
  (case k2=>k_is)
  (case a3=>k_is)
  (case l3=>k_is)
  (case c3=>k_is)
  (case k3=>k_is)
  (case a4=>k_is)
  (case l4=>k_is)
  (case c4=>k_is)
  (case k4=>k_is)
  (case a5=>k_is)
  (case l5=>k_is)
  (case c5=>k_is)
  (case k5=>k_is)
  (case a6=>k_is)
  (case l6=>k_is)
  (case c6=>k_is)
  (case k6=>k_is)
  (case a7=>k_is)
  (case l7=>k_is)
  (case c7=>k_is)
  (case k7=>k_is)
  (case a8=>k_is)
  (case l8=>k_is)
  (case c8=>k_is)
  (case k8=>k_is)
  (case a9=>k_is)
  (case l9=>k_is)
  (case c9=>k_is)
  (case k9=>k_is)
  (case a10=>k_is)
  (case l10=>k_is)
  (case c10=>k_is)
  (case k10=>k_is)
  (case a11=>k_is)
  (case l11=>k_is)
  (case c11=>k_is)
  (case k11=>k_is)
  (case a12=>k_is)
  (case l12=>k_is)
  (case c12=>k_is)
  (case k12=>k_is)
  (case a13=>k_is)
  (case l13=>k_is)
  (case c13=>k_is)
  (case k13=>k_is)
  (case a14=>k_is)
  (case l14=>k_is)
  (case c14=>k_is)
  (case k14=>k_is)
  (case a15=>k_is)
  (case l15=>k_is)
  (case c15=>k_is)
  (case k15=>k_is)
  (case a16=>k_is)
  (case l16=>k_is)
  (case c16=>k_is)
  (case k16=>k_is)
  (case a17=>k_is)
  (case l17=>k_is)
  (case c17=>k_is)
  (case k17=>k_is)
  (case a18=>k_is)
  (case l18=>k_is)
  (case c18=>k_is)
  (case k18=>k_is)
  (case a19=>k_is)
  (case l19=>k_is)
  (case c19=>k_is)
  (case k19=>k_is)
  (case a20=>k_is)
  (case l20=>k_is)
  (case c20=>k_is)
  (case k20=>k_is)
  (case a21=>k_is)
  (case l21=>k_is)
  (case c21=>k_is)
  (case k21=>k_is)
  (case a22=>k_is)
  (case l22=>k_is)
  (case c22=>k_is)
  (case k22=>k_is)
  (case a23=>k_is)
  (case l23=>k_is)
  (case c23=>k_is)
  (case k23=>k_is)
  (case a24=>k_is)
  (case l24=>k_is)
  (case c24=>k_is)
  (case k24=>k_is)
  (case a25=>k_is)
  (case l25=>k_is)
  (case c25=>k_is)
  (case k25=>k_is)
  (case a26=>k_is)
  (case l26=>k_is)
  (case c26=>k_is)
  (case k26=>k_is)
  (case a27=>k_is)
  (case l27=>k_is)
  (case c27=>k_is)
  (case k27=>k_is)
  (case a28=>k_is)
  (case l28=>k_is)
  (case c28=>k_is)
  (case k28=>k_is)
  (case a29=>k_is)
  (case l29=>k_is)
  (case c29=>k_is)
  (case k29=>k_is)
  (case a30=>k_is)
  (case l30=>k_is)
  (case c30=>k_is)
  (case k30=>k_is)
  (case a31=>k_is)
  (case l31=>k_is)
  (case c31=>k_is)
  (case k31=>k_is)
  (case a32=>k_is)
  (case l32=>k_is)
  (case c32=>k_is)
  (case k32=>k_is)
  (case a33=>k_is)
  (case l33=>k_is)
  (case c33=>k_is)
  (case k33=>k_is)
  (case a34=>k_is)
  (case l34=>k_is)
  (case c34=>k_is)
  (case k34=>k_is)
  (case a35=>k_is)
  (case l35=>k_is)
  (case c35=>k_is)
  (case k35=>k_is)
  (case a36=>k_is)
  (case l36=>k_is)
  (case c36=>k_is)
  (case k36=>k_is)
  (case z_all=>k_is)
  (case z_enumerate=>k_is)
  (case z_int=>k_is)
  (case z_len=>k_is)
  (case z_list=>k_is)
  (case z_max=>k_is)
  (case z_min=>k_is)
  (case z_range=>k_is)
  (case z_reversed=>k_is)
  (case z_sorted=>k_is)
  (case z_tuple=>k_is)
  (case z_zip=>k_is)
