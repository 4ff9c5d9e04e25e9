import PyProof.Rows.All
import Wide.All
import OpenK.AllK
import Wide.FinOn
import Lean
import PyProof.EqAt
import PyProof.EqKinds
import PyProof.TupleCall
import PySem.Challenge.RW_mustmeet_k21_deeds_that_cannot_be
set_option Elab.async false
set_option linter.all false
set_option maxRecDepth 100000
namespace L2
open PySem PySem.Spec PyProof.Rows
abbrev Key:=Sum Int Str
noncomputable def nJ:Key->Value->Bool
 | .inl k,v=>Value.isInt k v
 | .inr x,v=>Value.isStrOf x v
noncomputable def Pb (w:World):Key->Int
 | .inl k=>hashInt k
 | .inr x=>hashStr w x
theorem bN: ∀{k:Key} {v:Value},nJ k v=true->(∃i t,k=Sum.inl i/\v=Value.int i t)\/(∃x t,k=Sum.inr x/\v=Value.str x t)
 | .inl i,v,h=>by
  obtain ⟨t,e⟩:=Value.isInt_shape (k:=i) (v:=v) h
  exact .inl ⟨i,t,rfl,e⟩
 | .inr x,v,h=>by
  obtain ⟨t,e⟩:=Value.isStrOf_shape (x:=x) (v:=v) h
  exact .inr ⟨x,t,rfl,e⟩
theorem wR (i:Int) (t:Tok):nJ (.inl i) (.int i t)=true:=by simp[nJ,Value.isInt]
theorem wU (x:Str) (t:Tok):nJ (.inr x) (.str x t)=true:=by simp[nJ,Value.isStrOf]
theorem FJ (a b:Int):decide ((Sum.inl a:Key)=Sum.inl b)=(a==b):=by
 by_cases e:a=b
 ·subst e;simp
 ·have h: ¬(Sum.inl a:Key)=Sum.inl b:=fun q=>e (Sum.inl.inj q)
  rw[decide_eq_false h]
  exact (beq_eq_false_iff_ne.mpr e).symm
theorem FK (a b:Str):decide ((Sum.inr a:Key)=Sum.inr b)=decide (a=b):=by
 by_cases e:a=b
 ·subst e;simp
 ·have h: ¬(Sum.inr a:Key)=Sum.inr b:=fun q=>e (Sum.inr.inj q)
  rw[decide_eq_false h,decide_eq_false e]
theorem FL (a:Int) (b:Str):decide ((Sum.inl a:Key)=Sum.inr b)=false:=decide_eq_false (fun q=>nomatch q)
theorem FN (a:Str) (b:Int):decide ((Sum.inr a:Key)=Sum.inl b)=false:=decide_eq_false (fun q=>nomatch q)
noncomputable def bI (prog:Program) (w:World):PySem.KeyKind prog w Key where
 is:=nJ
 hash:=Pb w
 inj:=fun v a b ha hb=>by
  rcases bN ha with ⟨i,t,rfl,rfl⟩ | ⟨x,t,rfl,rfl⟩
  ·rcases bN hb with ⟨j,u,rfl,e⟩ | ⟨y,u,rfl,e⟩
   ·injection e with e1 _;rw[e1]
   ·exact nomatch e
  ·rcases bN hb with ⟨j,u,rfl,e⟩ | ⟨y,u,rfl,e⟩
   ·exact nomatch e
   ·injection e with e1 _;rw[e1]
 byValue:=fun k v h=>by
  rcases bN h with ⟨i,t,rfl,rfl⟩ | ⟨x,t,rfl,rfl⟩<;>rfl
 pyHash:=fun hv h=>by
  rcases bN hv with ⟨i,t,rfl,rfl⟩ | ⟨x,t,rfl,rfl⟩
  ·exact wpAny_pyHash_int h
  ·exact wpAny_pyHash_str h
 eqBool:=fun hu hv h=>by
  rcases bN hu with ⟨i,t,rfl,rfl⟩ | ⟨x,t,rfl,rfl⟩
  ·rcases bN hv with ⟨j,u,rfl,rfl⟩ | ⟨y,u,rfl,rfl⟩
   ·rw[FJ]at h;exact wpAny_eqBool_int h
   ·rw[FL]at h;exact SeqAt.EqAt.int_str i t y u _ _ _ _ h
  ·rcases bN hv with ⟨j,u,rfl,rfl⟩ | ⟨y,u,rfl,rfl⟩
   ·rw[FN]at h;exact SeqAt.EqAt.str_int x t j u _ _ _ _ h
   ·rw[FK]at h;exact wpAny_eqBool_str h
 «strs» :=fun k x t v h=>by
  rcases bN h with ⟨i,u,rfl,e⟩ | ⟨y,u,rfl,e⟩
  ·exact nomatch e
  ·injection e with e1 _
   subst e1
   cases v<;>rfl
theorem qJ (prog:Program) (w:World) (i:Int) (t:Tok):(bI prog w).is (.inl i) (.int i t)=true:=wR i t
theorem qK (prog:Program) (w:World) (x:Str) (t:Tok):(bI prog w).is (.inr x) (.str x t)=true:=wU x t
end L2
namespace L2
open PySem PySem.Spec PyProof.Rows
inductive V where
 | bY | bl (b:Bool) | int (i:Int) | str (x:Str) | yW (b:Array UInt8) | zv (b:UInt64) | ref (a:Addr) | ty (n:String)
 deriving DecidableEq
def RelV:V->Value->Prop
 | .bY,u=>u=Value.none
 | .bl b,u=>u=Value.bool b
 | .int i,u=> ∃t,u=Value.int i t
 | .str x,u=> ∃t,u=Value.str x t
 | .yW b,u=> ∃t,u=Value.bytes b t
 | .zv b,u=> ∃t,u=Value.float b t
 | .ref a,u=>u=Value.ref a
 | .ty n,u=>u=Value.type n
abbrev Vals:List V->List Value->Prop:=Paired RelV
theorem Vals.length {xs:List V} {us:List Value} (r:Vals xs us):xs.length=us.length:=Paired.length r
theorem Vals.get: ∀{xs:List V} {us:List Value} {i:Nat} {x:V},Vals xs us->xs[i]? =some x-> ∃u,us[i]? =some u/\RelV x u
 | _,_,_,_, .nil,e=>by simp at e
 | _,_,0,_, .cons r _,e=>by simp at e;subst e;exact ⟨_,rfl,r⟩
 | _,_,i+1,x, .cons _ t,e=>by
  obtain ⟨u,h1,h2⟩:=Vals.get (i:=i) (x:=x) t (by simpa using e)
  exact ⟨u,by simpa using h1,h2⟩
theorem Vals.set {x:V} {u:Value} (r:RelV x u): ∀{xs:List V} {us:List Value} (i:Nat),Vals xs us->Vals (xs.set i x) (us.set i u)
 | _,_,_, .nil=> .nil
 | _,_,0, .cons _ t=> .cons r t
 | _,_,i+1, .cons q t=> .cons q (Vals.set r i t)
theorem Vals.append: ∀{xs ys:List V} {us ws:List Value},Vals xs us->Vals ys ws->Vals (xs++ys) (us++ws)
 | _,_,_,_, .nil,s=>s
 | _,_,_,_, .cons r t,s=> .cons r (Vals.append t s)
theorem Vals.take: ∀{xs:List V} {us:List Value} (n:Nat),Vals xs us->Vals (xs.take n) (us.take n)
 | _,_,0,_=> .nil
 | _,_,_+1, .nil=> .nil
 | _,_,n+1, .cons r t=> .cons r (Vals.take n t)
theorem Vals.drop: ∀{xs:List V} {us:List Value} (n:Nat),Vals xs us->Vals (xs.drop n) (us.drop n)
 | _,_,0,r=>r
 | _,_,_+1, .nil=> .nil
 | _,_,n+1, .cons _ t=>Vals.drop n t
def i7:Option V->Option Value->Prop
 | some v,some u=>RelV v u
 | none,none=>True
 | _,_=>False
def KV {κ:Type}:List (κ×V)->List (κ×Value)->Prop:=Paired fun (p:κ×V) (q:κ×Value)=>p.1=q.1/\RelV p.2 q.2
noncomputable def kV:Key->V
 | .inl i=> .int i
 | .inr x=> .str x
inductive HO where
  | lst (xs:List V)
  | tup (xs:List V)
  | dK (kvs:List (Key×V)) | dT (kvs:List (List Key×V))
  | set (S:Int->Bool) (n:Nat)
  | ins (C dx:Addr) (fs:List (Str×V))
  | own (x:Addr)
  | xd (fs:List (Str×V))
  | met (f x:Addr)
  | NF (lo hi:Int)
  | tT (o:Obj) (u:HO)
  | EA (ps:Array Value)
  | ext (φ:Heap->Prop)
abbrev Hp:=Addr->Option HO
noncomputable def upd (H:Hp) (a:Addr) (o:HO):Hp:=fun b=>if b=a then some o else H b
theorem ae {H:Hp} {a:Addr} {o:HO}:upd H a o a=some o:=by unfold upd;rw[if_pos rfl]
theorem aj {H:Hp} {a b:Addr} {o:HO} (h:b≠a):upd H a o b=H b:=by unfold upd;rw[if_neg h]
theorem vp {H:Hp} {a:Addr} {o u:HO}:upd (upd H a o) a u=upd H a u:=by
 funext b;unfold upd;split<;>rfl
theorem J6 {H:Hp} {a b:Addr} {o u:HO} (h:H a=some o) (h':H b=some u) (d:o≠u):a≠b:=by
 intro e;subst e;rw[h]at h';exact d (Option.some.inj h')
theorem ao {H:Hp} {a b:Addr} {o:HO} (h:H a=some o) (h':H b=none):a≠b:=by
 intro e;subst e;rw[h]at h';cases h'
section
variable (P:Program) (w:World)
def bG (H:Hp) (h:Heap) (a:Addr):HO->Prop
 | .lst xs=>xs.length<=sizeLine/\ ∃(aL:List Value) (n:Nat),Vals xs aL/\h.get? a=some { cls:= .type "list",data:= .seq aL.toArray n }
 | .tup xs=>xs.length<=sizeLine/\ ∃aL:List Value,Vals xs aL/\IsTup h a aL.toArray
 | .dK kvs=>kvs.length<=sizeLine/\(a==sysModules)=false/\ ∃vs,KV kvs vs/\h.DictOf (bI P w) a vs
 | .dT kvs=>kvs.length<=sizeLine/\(a==sysModules)=false/\ ∃xs:List (List Key×Addr×Value),
   Paired (fun (p:List Key×V) (q:List Key×Addr×Value)=>p.1=q.1/\H q.2.1=some (.tup (p.1.map kV))/\RelV p.2 q.2.2) kvs xs/\
   ∃o es ep,h.get? a=some o/\o.ExactDict/\o.data= .dict es ep/\es.toList=xs.map (entryOfKey (tupleKind (bI P w)))/\(xs.map (·.1)).Nodup
 | .set S n=>h.SetOf (intKind P w) a S n
 | .ins C dx fs=>H dx=some (.own a)/\fs.length<=1000/\dx≠a/\h.get? a=some (PySem.W.instObj C dx)/\
   ∃mA,h.Ns1 dx mA/\(∀f,i7 (fs.lookup f) (mA f))/\PySem.Within mA (fs.map (·.1))
 | .own _=> ∃o,h.get? a=some o
 | .xd fs=> ∃mA,h.Ns1 a mA/\ ∀f,i7 (fs.lookup f) (mA f)
 | .NF lo hi=> ∃t u v,h.get? a=some { cls:= .type "range",data:= .fields #[.int lo t, .int hi u, .int 1 v] }
 | .tT o u=>h.get? a=some o/\bG H h a u
 | .EA ps=>h.get? a=some { cls:= .none,data:= .fields ps }
 | .met f x=>h.get? a=some (PySem.W.methodObj (.ref f) (.ref x))
 | .ext φ=>φ h/\(∃o,h.get? a=some o)/\ ∀h1 h2:Heap,φ h1->(∀o,h1.get? a=some o->h2.get? a=some o)->φ h2
def gD (H:Hp) (h:Heap):Prop:= ∀a o,H a=some o->bG P w H h a o
end
section
variable {P:Program} {w:World} {H H':Hp} {h h':Heap} {a:Addr} {o:HO}
theorem bG.lt (x:bG P w H h a o):a<h.objs.size:=by
 cases o with
 | lst xs=>obtain ⟨_,_,_,_,e⟩:=x;exact Heap.lt_size e
 | tup xs=>obtain ⟨_,_,_,p⟩:=x;exact p.lt
 | dK kvs=>obtain ⟨_,_,_,_,o,_,_,e,_⟩:=x;exact Heap.lt_size e
 | dT kvs=>obtain ⟨_,_,_,_,o,_,_,e,_⟩:=x;exact Heap.lt_size e
 | set S n=>obtain ⟨o,_,_,_,e,_⟩:=x;exact Heap.lt_size e
 | ins C dx fs=>obtain ⟨_,_,_,e,_⟩:=x;exact Heap.lt_size e
 | own y=>obtain ⟨_,e⟩:=x;exact Heap.lt_size e
 | xd fs=>obtain ⟨_,⟨_,_,_,e,_⟩,_⟩:=x;exact Heap.lt_size e
 | NF lo hi=>obtain ⟨_,_,_,e⟩:=x;exact Heap.lt_size e
 | tT ob u=>obtain ⟨e,_⟩:=x;exact Heap.lt_size e
 | EA ps=>exact Heap.lt_size (show h.get? a=some _ from x)
 | met f y=>exact Heap.lt_size (show h.get? a=some _ from x)
 | ext φ=>obtain ⟨_,⟨_,e⟩,_⟩:=x;exact Heap.lt_size e
theorem Paired.FO {α β:Type} {F G:α->β->Prop}: ∀{l₁:List α} {l₂:List β},Paired F l₁ l₂->(∀a b,F a b->G a b)->Paired G l₁ l₂
 | _,_, .nil,_=> .nil
 | _,_, .cons r t,f=> .cons (f _ _ r) (Paired.FO t f)
theorem bG.lA (x:bG P w H h a o) (k: ∀b u,(b=a\/H b=some (.own a))->h.get? b=some u->h'.get? b=some u)
  (ho: ∀b,H b=some (.own a)->H' b=some (.own a)) (ht: ∀b xs,H b=some (.tup xs)->H' b=some (.tup xs)):bG P w H' h' a o:=by
 induction o with
 | lst xs=>obtain ⟨z,aL,n,r,e⟩:=x;exact ⟨z,aL,n,r,k _ _ (.inl rfl) e⟩
 | tup xs=>obtain ⟨z,aL,r,ob,e,c⟩:=x;exact ⟨z,aL,r,ob,k _ _ (.inl rfl) e,c⟩
 | dK kvs=>obtain ⟨z,y,vs,r,ob,es,ep,e,c⟩:=x;exact ⟨z,y,vs,r,ob,es,ep,k _ _ (.inl rfl) e,c⟩
 | dT kvs=>
  obtain ⟨z,y,xs,r,ob,es,ep,e,c⟩:=x
  exact ⟨z,y,xs,Paired.FO r fun p q z=>⟨z.1,ht _ _ z.2.1,z.2.2⟩,ob,es,ep,k _ _ (.inl rfl) e,c⟩
 | set S n=>obtain ⟨ob,es,ep,t,e,c⟩:=x;exact ⟨ob,es,ep,t,k _ _ (.inl rfl) e,c⟩
 | ins C dx fs=>
  obtain ⟨d,z,ne,e,mA,⟨od,es,ep,e2,c⟩,r⟩:=x
  exact ⟨ho _ d,z,ne,k _ _ (.inl rfl) e,mA,⟨od,es,ep,k _ _ (.inr d) e2,c⟩,r⟩
 | own y=>obtain ⟨ob,e⟩:=x;exact ⟨ob,k _ _ (.inl rfl) e⟩
 | xd fs=>obtain ⟨mA,⟨od,es,ep,e,c⟩,r⟩:=x;exact ⟨mA,⟨od,es,ep,k _ _ (.inl rfl) e,c⟩,r⟩
 | NF lo hi=>obtain ⟨t,u,v,e⟩:=x;exact ⟨t,u,v,k _ _ (.inl rfl) e⟩
 | tT ob u ih=>obtain ⟨e,q⟩:=x;exact ⟨k _ _ (.inl rfl) e,ih q⟩
 | EA ps=>
  have e:h.get? a=some { cls:= .none,data:= .fields ps }:=x
  show h'.get? a=some { cls:= .none,data:= .fields ps }
  exact k a _ (.inl rfl) e
 | met f y=>
  have e:h.get? a=some (PySem.W.methodObj (.ref f) (.ref y)):=x
  show h'.get? a=some (PySem.W.methodObj (.ref f) (.ref y))
  exact k a _ (.inl rfl) e
 | ext φ=>obtain ⟨p,⟨o,e⟩,st⟩:=x;exact ⟨st _ _ p fun o q=>k _ _ (.inl rfl) q,⟨o,k _ _ (.inl rfl) e⟩,st⟩
theorem gD.lt (x:gD P w H h) (e:H a=some o):a<h.objs.size:=(x a o e).lt
theorem gD.fresh (x:gD P w H h) (e:h.objs.size<=a):H a=none:=by
 cases q:H a with
 | none=>rfl
 | some u=>exact absurd (Nat.lt_of_lt_of_le (x.lt q) e) (Nat.lt_irrefl _)
theorem gD.kept (x:gD P w H h) (k: ∀b u,h.get? b=some u->h'.get? b=some u):gD P w H h':=fun a o e=>
 (x a o e).lA (fun b u _ q=>k b u q) (fun _ q=>q) fun _ _ q=>q
theorem gD.laid (x:gD P w H h) (k: ∀b u,h.get? b=some u->h'.get? b=some u) (hp:h.objs.size<=a) (new:bG P w (upd H a o) h' a o):gD P w (upd H a o) h':=fun b u e=>by
 have hn:=x.fresh hp
 by_cases hb:b=a
 ·subst hb;rw[ae]at e;cases e;exact new
 ·rw[aj hb]at e
  exact (x b u e).lA (fun c v _ q=>k c v q) (fun c q=>by rw[aj (ao q hn)];exact q) fun c xs q=>by rw[aj (ao q hn)];exact q
end
def Rd (H:Hp) (a:Addr) (u:HO):Prop:=H a=some u\/ ∃o,H a=some (.tT o u)
theorem Rd.ok {P:Program} {w:World} {H:Hp} {h:Heap} {a:Addr} {u:HO} (r:Rd H a u) (x:gD P w H h):bG P w H h a u:=by
 rcases r with r | ⟨o,r⟩
 ·exact x a u r
 ·obtain ⟨_,q⟩:=x a _ r
  exact q
def J9:Option HO->Prop
 | some (.lst _)=>True
 | some (.dK _)=>True
 | some (.dT _)=>True
 | some (.set _ _)=>True
 | some (.ins _ _ _)=>True
 | some (.ext _)=>True
 | _=>False
section
variable {P:Program} {w:World} {H:Hp} {h h':Heap} {x e:Addr} {o':HO}
theorem gD.write (ok:gD P w H h) (mu:J9 (H x)) (he:e=x\/H e=some (.own x)) (k: ∀b u,b≠e->h.get? b=some u->h'.get? b=some u) (Jt: ∃u,h'.get? e=some u)
  (new:bG P w (upd H x o') h' x o'):gD P w (upd H x o') h':=fun b u q=>by
 have J_: ∀c y,H c=some (.own y)->c≠x:=fun c y r z=>by subst z;rw[r]at mu;exact mu
 have Pc: ∀c xs,H c=some (.tup xs)->c≠x:=fun c xs r z=>by subst z;rw[r]at mu;exact mu
 by_cases hb:b=x
 ·subst hb;rw[ae]at q;cases q;exact new
 ·rw[aj hb]at q
  by_cases yX:b=e
  ·have q':H b=some (.own x):=by
    rcases he with z | z
    ·exact absurd (yX.trans z) hb
    ·rw[yX];exact z
   rw[q]at q';cases q'
   obtain ⟨v,hv⟩:=Jt
   exact ⟨v,by rw[yX];exact hv⟩
  ·refine (ok b u q).lA (fun c v hc r=>k c v ?_ r) (fun c r=>by rw[aj (J_ c b r)];exact r) fun c xs r=>by rw[aj (Pc c xs r)];exact r
   rcases hc with rfl | hc
   ·exact yX
   ·rintro rfl
    rcases he with z | z
    ·exact J_ c b hc z
    ·rw[hc]at z;cases z;exact hb rfl
end
structure Un (fs ex:List Addr) (H H':Hp) (h h':Heap):Prop where
 keep: ∀b o,h.get? b=some o->H b=none->b∉fs->b∉ex->h'.get? b=some o
 slot: ∀b o,h.get? b=some o->H b=none->b∈fs->b∉ex-> ∃sl,h'.get? b=some { o with slots:=sl }
 free: ∀b o,h.get? b=some o->H b=none->b∉ex->H' b=none
 there: ∀b o,h.get? b=some o->b∉ex-> ∃o',h'.get? b=some o'
 jl: ∀b xs,H b=some (.tup xs)->H' b=some (.tup xs)
 i8: ∀b o u,H b=some (.tT o u)->H' b=some (.tT o u)
 jH: ∀b ps,H b=some (.EA ps)-> ∃more,H' b=some (.EA (ps++more))
section
variable {fs Xe ex ex':List Addr} {H H1 H2:Hp} {h h1 h2 h':Heap} {a x e:Addr} {o:HO}
theorem Un.any (u:Un fs ex H H1 h h1) {b:Addr} {ob:Obj} (q:h.get? b=some ob) (n:H b=none) (hx:b∉ex): ∃sl,h1.get? b=some { ob with slots:=sl }:=by
 by_cases hb:b∈fs
 ·exact u.slot b ob q n hb hx
 ·exact ⟨ob.slots,u.keep b ob q n hb hx⟩
theorem Un.kept (k: ∀b u,h.get? b=some u->h'.get? b=some u):Un fs ex H H h h':=
 ⟨fun b ob q _ _ _=>k b ob q,fun b ob q _ _ _=>⟨ob.slots,k b ob q⟩,fun _ _ _ n _=>n,fun b ob q _=>⟨ob,k b ob q⟩,fun _ _ q=>q,fun _ _ _ q=>q,fun _ ps q=>⟨#[],by rw[q];simp⟩⟩
theorem Un.refl:Un fs ex H H h h:=Un.kept fun _ _ q=>q
theorem Un.laid (k: ∀b u,h.get? b=some u->h'.get? b=some u) (hp:h.objs.size<=a) (hn:H a=none):Un fs ex H (upd H a o) h h' where
 keep:=fun b u q _ _ _=>k b u q
 slot:=fun b u q _ _ _=>⟨u.slots,k b u q⟩
 free:=fun b u q n _=>by rw[aj (Nat.ne_of_lt (Nat.lt_of_lt_of_le (Heap.lt_size q) hp))];exact n
 there:=fun b u q _=>⟨u,k b u q⟩
 jl:=fun b xs q=>by rw[aj (ao q hn)];exact q
 i8:=fun b u xs q=>by rw[aj (ao q hn)];exact q
 jH:=fun b ps q=>⟨#[],by rw[aj (ao q hn),q];simp⟩
theorem Un.write (mu:J9 (H x)) (he:e=x\/H e=some (.own x)) (k: ∀b u,b≠e->h.get? b=some u->h'.get? b=some u) (Jt: ∃u,h'.get? e=some u):Un fs ex H (upd H x o) h h':=by
 have hx: ∀b,H b=none->b≠x:=fun b n z=>by subst z;rw[n]at mu;exact mu
 have hb: ∀b,H b=none->b≠e:=fun b n z=>by
  subst z
  rcases he with r | r
  ·exact hx b n r
  ·rw[n]at r;cases r
 have hm: ∀b u,H b=some u-> ¬J9 (some u)->b≠x:=fun b u q nm z=>by subst z;rw[q]at mu;exact nm mu
 refine ⟨fun b u q n _ _=>k b u (hb b n) q,fun b u q n _ _=>⟨u.slots,k b u (hb b n) q⟩,fun b u q n _=>by rw[aj (hx b n)];exact n,fun b u q _=>?_,
  fun b xs q=>by rw[aj (hm b _ q fun z=>z)];exact q,fun b u xs q=>by rw[aj (hm b _ q fun z=>z)];exact q,fun b ps q=>⟨#[],by rw[aj (hm b _ q fun z=>z),q];simp⟩⟩
 by_cases yX:b=e
 ·subst yX;exact Jt
 ·exact ⟨u,k b u yX q⟩
end
noncomputable def NG (h:Heap) (H:Hp):List Addr:=(List.range h.objs.size).filter fun a=>(H a).isSome
noncomputable def pI (h:Heap) (H:Hp):Heap:=PySem.W.hideAll h (NG h H)
theorem wV (h:Heap) (H:Hp):(pI h H).objs.size=h.objs.size:=PySem.W.hideAll_size _ _
theorem zw {h:Heap} {H:Hp} {b:Addr} {o:Obj} (e:h.get? b=some o) (n:H b=none):(pI h H).get? b=some o:=
 PySem.W.hideAll_get _ e fun hm=>by
  have q:(H b).isSome=true:=(List.mem_filter.mp hm).2
  rw[n]at q;simp at q
theorem Cs {h:Heap} {H:Hp} {b:Addr} {o:Obj} (e:(pI h H).get? b=some o):h.get? b=some o/\H b=none:=by
 have e':h.get? b=some o:=PySem.W.of_hideAll (NG h H) e
 refine ⟨e',?_⟩
 cases q:H b with
 | none=>rfl
 | some x=>
  have hm:b∈NG h H:=List.mem_filter.mpr ⟨List.mem_range.mpr (Heap.lt_size e'),by simp[q]⟩
  have z:(pI h H).get? b=none:=PySem.W.hideAll_none (NG h H) hm
  rw[z]at e;cases e
noncomputable def Ct (g h:Heap) (L:Addr):List (Addr×Obj):=(List.range h.objs.size).filterMap fun a=>if a=L\/(g.get? a).isSome=true then none else (h.get? a).map fun o=>(a,o)
noncomputable def rest (g h:Heap) (L d:Addr):List (Addr×Obj):=(Ct g h L).filter fun p=>decide (p.1≠d)
end L2
namespace L2
open PySem PySem.Spec PyProof.Rows
structure Mod (K:PySem.W.Frag) (mg:Str->Option Value) (base:Heap):Prop where
 Ka:K.In base
 glob:base.Ns mainGlobals mg
 blt: ∃mb,base.Ns builtinsNs mb/\ ∀x:Str,x≠"__name__"->mb x=bootBuiltins x
 nolimit:base.NoLimit
structure Cx where
 prog:Program
 w:World
 K:PySem.W.Frag
 mg:Str->Option Value
 base:Heap
 A:Around
 N:List Str
 s₀:Shared
 H₀:Hp
 env:Env
 outer:List Env
 stack:List Env
 ex:List Addr
 fn:Str->Bool
 calm:Bool
 pn:List (Addr×Obj)
 xe:Value->Shared->Prop
noncomputable def jE (l:List Env):List Addr:=l.filterMap (·.frame)
noncomputable abbrev Cx.fs (X:Cx):List Addr:=jE X.outer
def NH (sc:Scope) (x:Str):Prop:=sc.names.lookup x=some .local\/sc.names.lookup x=some .cell\/sc.names.lookup x=some .free
def Loc (sc:Scope) (x:Str):Prop:=sc.names.lookup x=some .local\/sc.names.lookup x=some .cell
def Look (env:Env) (h:Heap) (m:Str->Option Value) (x:Str) (u:Value):Prop:=
 (env.kindOf x=some .local/\m x=some u)\/((env.kindOf x=some .cell\/env.kindOf x=some .free)/\ ∃c,env.cells.lookup x=some c/\h.IsCell c (some u))
structure Cx.Ok (X:Cx):Prop where
 mod:Mod X.K X.mg X.base
 kind:X.env.scope.kind= .function
 glob:X.env.globals=mainGlobals
 blt:X.env.builtins=builtinsNs
 above:X.s₀.heap.objs.size<=X.env.locals
 inj: ∀x y c,X.env.cells.lookup x=some c->X.env.cells.lookup y=some c->x=y
 has: ∀x,(X.env.kindOf x=some .cell\/X.env.kindOf x=some .free)-> ∃c,X.env.cells.lookup x=some c
 EB: ∀x c,X.fn x=true->X.env.cells.lookup x=some c->X.s₀.heap.objs.size<=c
 hd:X.calm=true->X.A.handled=none
 frames:X.A.frames=some X.stack
 EC:X.stack=X.outer\/(X.stack=X.env::X.outer/\X.env.frame=some X.env.locals)
 Kb: ∀b∈X.ex,b≠X.env.locals/\ ∀x c,X.env.cells.lookup x=some c->c≠b
 bs: ∀b o,X.base.get? b=some o->X.s₀.heap.get? b=some o/\X.H₀ b=none
 yY:X.base.objs.size<=X.s₀.heap.objs.size
 qL: ∀b o,X.base.get? b=some o->b∉X.ex
 tV: ∀b∈X.ex,b∉X.fs
 jm:X.s₀.heap.FunFrames X.base X.outer
 B6: ∀b∈X.fs,X.H₀ b=none
structure Inv (X:Cx) (pins:List (Addr×Obj)) (σ:List (Option V)) (H:Hp) (s:Shared):Prop where
 ok:X.Ok
 os:s.os=X.s₀.os
 bare:AllBare s.gens
 base:Un X.fs X.ex X.H₀ H X.s₀.heap s.heap
 loc: ∃m,s.heap.Ns X.env.locals m/\ ∀(i:Nat) (x:Str) (v:V),X.N[i]? =some x->σ[i]? =some (some v)->NH X.env.scope x-> ∃u,RelV v u/\Look X.env s.heap m x u
 cell: ∀x c,X.env.cells.lookup x=some c-> ∃v,s.heap.IsCell c v
 free:H X.env.locals=none
 dw: ∀x c,X.env.cells.lookup x=some c->H c=none
 pin: ∀p∈X.pn++pins,s.heap.get? p.1=some p.2/\H p.1=none/\p.1≠X.env.locals/\p.1∉X.fs/\ ∀v,p.2.data≠ .cell v
 aX:gD X.prog X.w H s.heap
 len:σ.length=X.N.length
section
variable {X:Cx} {pins:List (Addr×Obj)} {σ:List (Option V)} {H H':Hp} {s:Shared} {h':Heap}
theorem Cx.Ok.Pd (ok:X.Ok) {b:Addr} {o:Obj} (e:X.base.get? b=some o):b∉X.fs:=fun hb=>by
 have:=(ok.jm.mem hb).1
 rw[e]at this;cases this
theorem Inv.bs (I:Inv X pins σ H s): ∀b o,X.base.get? b=some o->s.heap.get? b=some o/\H b=none:=fun b o e=>
 ⟨I.base.keep b o (I.ok.bs b o e).1 (I.ok.bs b o e).2 (I.ok.Pd e) (I.ok.qL b o e),I.base.free b o (I.ok.bs b o e).1 (I.ok.bs b o e).2 (I.ok.qL b o e)⟩
theorem Inv.bk (I:Inv X pins σ H s): ∀b o,X.base.get? b=some o->s.heap.get? b=some o:=fun b o e=>(I.bs b o e).1
theorem Inv.mod (I:Inv X pins σ H s):Mod X.K X.mg X.base:=I.ok.mod
theorem Inv.jn (I:Inv X pins σ H s):X.K.In s.heap:=I.ok.mod.Ka.keeps I.bk
theorem Inv.lt (I:Inv X pins σ H s):X.env.locals<s.heap.objs.size:=let ⟨_,hn,_⟩:=I.loc;hn.lt
theorem Inv.sz (I:Inv X pins σ H s):X.s₀.heap.objs.size<=s.heap.objs.size:=Nat.le_trans I.ok.above (Nat.le_of_lt I.lt)
theorem Inv.FP (I:Inv X pins σ H s) {a:Addr} (h:s.heap.objs.size<=a):a∉X.fs:=fun hb=>by
 obtain ⟨_,o,ho,_⟩:=I.ok.jm.mem hb
 exact absurd (Nat.lt_of_lt_of_le (Heap.lt_size ho) (Nat.le_trans I.sz h)) (Nat.lt_irrefl _)
theorem Inv.Cu (I:Inv X pins σ H s): ∀x c,X.env.cells.lookup x=some c->c≠X.env.locals:=fun x c e z=>by
 obtain ⟨v,o,ho,hd⟩:=I.cell x c e
 obtain ⟨m,⟨o',es,ep,gf,Xf,_⟩,_⟩:=I.loc
 rw[z,gf]at ho;cases ho;rw[Xf]at hd;cases hd
theorem Inv.jm (I:Inv X pins σ H s):s.heap.FunFrames X.base X.outer:=by
 have all: ∀(l:List Env),(∀b∈jE l,b∈X.fs)->X.s₀.heap.FunFrames X.base l->s.heap.FunFrames X.base l:=by
  intro l
  induction l with
  | nil=>intro _ _;trivial
  | cons env r ih=>
   intro hs hl
   obtain ⟨hk,⟨L,o,hf,hn,ho,hd⟩,hr⟩:=hl
   have hL:L∈X.fs:=hs L (by unfold jE;rw[List.filterMap_cons,hf];exact List.mem_cons_self)
   obtain ⟨sl,e⟩:=I.base.slot L o ho (I.ok.B6 L hL) hL fun z=>I.ok.tV L z hL
   exact ⟨hk,⟨L,_,hf,hn,e,hd⟩,ih (fun b hb=>hs b (by unfold jE;rw[List.filterMap_cons,hf];exact List.mem_cons_of_mem _ hb)) hr⟩
 exact all X.outer (fun _ hb=>hb) I.ok.jm
theorem Inv.stack (I:Inv X pins σ H s):s.heap.FunFrames X.base X.stack:=by
 rcases I.ok.EC with e | ⟨e,hf⟩
 ·rw[e];exact I.jm
 ·rw[e]
  obtain ⟨m,hn,_⟩:=I.loc
  refine .cons (by rw[I.ok.kind];decide) hf hn ?_ I.jm
  exact Heap.get?_none_of_le (Nat.le_trans I.ok.yY I.ok.above)
theorem Inv.jo (I:Inv X pins σ H s): ∀b∈jE X.stack,b∈X.env.locals::X.fs:=fun b hb=>by
 rcases I.ok.EC with e | ⟨e,hf⟩
 ·rw[e]at hb;exact List.mem_cons_of_mem _ hb
 ·rw[e]at hb
  unfold jE at hb
  rw[List.filterMap_cons,hf]at hb
  exact hb
theorem Inv.lI (I:Inv X pins σ H s): ∀b∈jE X.stack,H b=none:=fun b hb=>by
 rcases List.mem_cons.mp (I.jo b hb) with e | hb
 ·rw[e];exact I.free
 ·obtain ⟨_,o,ho,_⟩:=I.ok.jm.mem hb
  exact I.base.free b o ho (I.ok.B6 b hb) fun z=>I.ok.tV b z hb
theorem Inv.step {g':Array GenState} {t':Nat} {d':Drawn} {ch:List Addr} (I:Inv X pins σ H s)
  (B7: ∀b∈ch,(b∈X.ex\/X.s₀.heap.objs.size<=b)/\b≠X.env.locals/\(∀x c,X.env.cells.lookup x=some c->c≠b)/\ ∀p∈X.pn++pins,p.1≠b)
  (keep: ∀b o,b≠X.env.locals->b∉X.fs->b∉ch->s.heap.get? b=some o->H b=none->h'.get? b=some o)
  (slot: ∀b o,b≠X.env.locals->b∈X.fs->b∉ch->s.heap.get? b=some o->H b=none-> ∃sl,h'.get? b=some { o with slots:=sl }) (free: ∀b o,b∉ch->s.heap.get? b=some o->H b=none->H' b=none)
  (there: ∀b o,b∉ch->s.heap.get? b=some o-> ∃o',h'.get? b=some o')
  (jl: ∀b xs,H b=some (.tup xs)->H' b=some (.tup xs)) (i8: ∀b o u,H b=some (.tT o u)->H' b=some (.tT o u)) (jH: ∀b ps,H b=some (.EA ps)-> ∃more,H' b=some (.EA (ps++more)))
  (ns: ∀m,s.heap.Ns X.env.locals m->h'.Ns X.env.locals m) (aX:gD X.prog X.w H' h') (hg:AllBare g'):
  Inv X pins σ H' { s with heap:=h',gens:=g',drawn:=d',toks:=t' }:=by
 have ED: ∀b o,X.s₀.heap.get? b=some o->b≠X.env.locals:=fun b o e=>Nat.ne_of_lt (Nat.lt_of_lt_of_le (Heap.lt_size e) I.ok.above)
 have FQ: ∀b o,X.s₀.heap.get? b=some o->b∉X.ex->b∉ch:=fun b o e hx hb=>by
  rcases (B7 b hb).1 with z | z
  ·exact hx z
  ·exact absurd (Nat.lt_of_lt_of_le (Heap.lt_size e) z) (Nat.lt_irrefl _)
 have cellK: ∀x c,X.env.cells.lookup x=some c-> ∀v,s.heap.IsCell c v->h'.IsCell c v:=fun x c e v ⟨o,ho,hd⟩=>by
  have Kc:c∉ch:=fun z=>(B7 c z).2.2.1 x c e rfl
  by_cases hc:c∈X.fs
  ·obtain ⟨sl,q⟩:=slot c o (I.Cu x c e) hc Kc ho (I.dw x c e)
   exact ⟨_,q,hd⟩
  ·exact ⟨o,keep c o (I.Cu x c e) hc Kc ho (I.dw x c e),hd⟩
 refine ⟨I.ok,I.os,hg,⟨fun b o e n hb hx=>?_,fun b o e n hb hx=>?_,fun b o e n hx=>?_,fun b o e hx=>?_,fun b xs e=>jl b xs (I.base.jl b xs e),fun b o xs e=>i8 b o xs (I.base.i8 b o xs e),fun b ps e=>?_⟩,?_,fun x c e=>?_,?_,fun x c e=>?_,fun p hp=>?_,aX,I.len⟩
 ·exact keep b o (ED b o e) hb (FQ b o e hx) (I.base.keep b o e n hb hx) (I.base.free b o e n hx)
 ·obtain ⟨sl,e1⟩:=I.base.slot b o e n hb hx
  obtain ⟨Xg,e2⟩:=slot b _ (ED b o e) hb (FQ b o e hx) e1 (I.base.free b o e n hx)
  exact ⟨Xg,e2⟩
 ·obtain ⟨o',e1⟩:=I.base.there b o e hx
  exact free b o' (FQ b o e hx) e1 (I.base.free b o e n hx)
 ·obtain ⟨o',e1⟩:=I.base.there b o e hx
  exact there b o' (FQ b o e hx) e1
 ·obtain ⟨m1,e1⟩:=I.base.jH b ps e
  obtain ⟨m2,e2⟩:=jH b _ e1
  exact ⟨m1++m2,by rw[e2,Array.append_assoc]⟩
 ·obtain ⟨m,hn,hl⟩:=I.loc
  refine ⟨m,ns m hn,fun i x v e1 e2 e3=>?_⟩
  obtain ⟨u,r,l⟩:=hl i x v e1 e2 e3
  refine ⟨u,r,?_⟩
  rcases l with l | ⟨k,c,e,z⟩
  ·exact .inl l
  ·exact .inr ⟨k,c,e,cellK x c e _ z⟩
 ·obtain ⟨v,z⟩:=I.cell x c e
  exact ⟨v,cellK x c e v z⟩
 ·obtain ⟨m,⟨o,_,_,ho,_⟩,_⟩:=I.loc
  exact free _ o (fun z=>(B7 _ z).2.1 rfl) ho I.free
 ·obtain ⟨v,o,ho,hd⟩:=I.cell x c e
  exact free c o (fun z=>(B7 c z).2.2.1 x c e rfl) ho (I.dw x c e)
 ·obtain ⟨e,n,ne,nf,d⟩:=I.pin p hp
  have Kc:p.1∉ch:=fun z=>(B7 p.1 z).2.2.2 p hp rfl
  exact ⟨keep p.1 p.2 ne nf Kc e n,free p.1 p.2 Kc e n,ne,nf,d⟩
theorem Inv.un {t':Nat} (I:Inv X pins σ H s) (u:Un X.fs [] H H' s.heap h') (aX:gD X.prog X.w H' h'):Inv X pins σ H' { s with heap:=h',toks:=t' }:=by
 obtain ⟨m,⟨o,es,ep,ho,r⟩,_⟩:=id I.loc
 obtain ⟨sl,hL⟩:=u.any ho I.free (by simp)
 exact I.step (g':=s.gens) (d':=s.drawn) (ch:=[]) (fun _ z=>nomatch z) (fun b o _ hb _ e n=>u.keep b o e n hb (by simp)) (fun b o _ hb _ e n=>u.slot b o e n hb (by simp)) (fun b o _ e n=>u.free b o e n (by simp)) (fun b o _ e=>u.there b o e (by simp)) u.jl u.i8 u.jH (fun m' hm=>by
  obtain ⟨o',Pe,Pf,gf,r'⟩:=hm
  rw[ho]at gf;cases gf
  exact ⟨_,Pe,Pf,hL,r'⟩) aX I.bare
theorem Inv.call {g':Array GenState} {t':Nat} {d':Drawn} {ch:List Addr} (I:Inv X pins σ H s) (u:Un (jE X.stack) ch H H' s.heap h') (aX:gD X.prog X.w H' h') (hg:AllBare g')
  (B7: ∀b∈ch,(b∈X.ex\/X.s₀.heap.objs.size<=b)/\b≠X.env.locals/\(∀x c,X.env.cells.lookup x=some c->c≠b)/\ ∀p∈X.pn++pins,p.1≠b):
  Inv X pins σ H' { s with heap:=h',gens:=g',drawn:=d',toks:=t' }:=by
 obtain ⟨m,⟨o,es,ep,ho,r⟩,_⟩:=id I.loc
 obtain ⟨sl,hL⟩:=u.any ho I.free fun z=>(B7 _ z).2.1 rfl
 exact I.step (ch:=ch) B7 (fun b o hL hb hc e n=>u.keep b o e n (fun z=>(List.mem_cons.mp (I.jo b z)).elim hL hb) hc) (fun b o _ _ hc e n=>u.any e n hc) (fun b o hc e n=>u.free b o e n hc) (fun b o hc e=>u.there b o e hc) u.jl u.i8 u.jH (fun m' hm=>by
  obtain ⟨o',Pe,Pf,gf,r'⟩:=hm
  rw[ho]at gf;cases gf
  exact ⟨_,Pe,Pf,hL,r'⟩) aX hg
theorem Inv.turned {t':Nat} {it:Addr} (I:Inv X pins σ H s) (k: ∀b o,b≠it->s.heap.get? b=some o->h'.get? b=some o) (hn:H it=none) (hL:it≠X.env.locals)
  (h1:it∈X.ex\/X.s₀.heap.objs.size<=it) (h2: ∀x c,X.env.cells.lookup x=some c->c≠it) (h3: ∀p∈X.pn++pins,p.1≠it):Inv X pins σ H { s with heap:=h',toks:=t' }:=by
 have EE: ∀b u,H b=some u->b≠it:=fun b u e z=>by rw[z,hn]at e;cases e
 refine I.step (g':=s.gens) (d':=s.drawn) (ch:=[it]) (fun b hb=>?_) (fun b o _ _ hc e _=>k b o (fun z=>hc (by simp[z])) e) (fun b o _ _ hc e _=>⟨o.slots,k b o (fun z=>hc (by simp[z])) e⟩) (fun _ _ _ _ n=>n)
  (fun b o hc e=>⟨o,k b o (fun z=>hc (by simp[z])) e⟩) (fun _ _ e=>e) (fun _ _ _ e=>e) (fun b ps e=>⟨#[],by rw[e];simp⟩) (fun m hm=>?_) (fun b u e=>?_) I.bare
 ·have e:b=it:=by simpa using hb
  subst e
  exact ⟨h1,hL,h2,h3⟩
 ·obtain ⟨o,es,ep,ho,r⟩:=hm
  exact ⟨o,es,ep,k _ o (Ne.symm hL) ho,r⟩
 ·refine (I.aX b u e).lA (fun c v hc q=>k c v ?_ q) (fun _ q=>q) fun _ _ q=>q
  rcases hc with z | z
  ·rw[z];exact EE b u e
  ·exact EE c _ z
theorem Inv.tok (I:Inv X pins σ H s) (t:Nat):Inv X pins σ H { s with toks:=t }:=I.un (h':=s.heap) (t':=t) Un.refl I.aX
theorem Inv.kept {t':Nat} (I:Inv X pins σ H s) (k: ∀b u,s.heap.get? b=some u->h'.get? b=some u):Inv X pins σ H { s with heap:=h',toks:=t' }:=I.un (Un.kept k) (I.aX.kept k)
theorem Inv.laid {a:Addr} {o:HO} {t':Nat} (I:Inv X pins σ H s) (k: ∀b u,s.heap.get? b=some u->h'.get? b=some u) (hp:s.heap.objs.size<=a) (new:bG X.prog X.w (upd H a o) h' a o):
  Inv X pins σ (upd H a o) { s with heap:=h',toks:=t' }:=I.un (Un.laid k hp (I.aX.fresh hp)) (I.aX.laid k hp new)
theorem Inv.write {x e:Addr} {o:HO} {t':Nat} (I:Inv X pins σ H s) (mu:J9 (H x)) (he:e=x\/H e=some (.own x)) (k: ∀b u,b≠e->s.heap.get? b=some u->h'.get? b=some u) (Jt: ∃u,h'.get? e=some u)
  (new:bG X.prog X.w (upd H x o) h' x o):Inv X pins σ (upd H x o) { s with heap:=h',toks:=t' }:=I.un (Un.write mu he k Jt) (I.aX.write mu he k Jt new)
theorem Inv.weak {σ':List (Option V)} (I:Inv X pins σ H s) (hl:σ'.length=σ.length) (w: ∀(i:Nat) v,σ'[i]? =some (some v)->σ[i]? =some (some v)):Inv X pins σ' H s:=
 ⟨I.ok,I.os,I.bare,I.base,let ⟨m,hn,jI⟩:=I.loc;⟨m,hn,fun i x v e1 e2 e3=>jI i x v e1 (w i v e2) e3⟩,I.cell,I.free,I.dw,I.pin,I.aX,hl.trans I.len⟩
theorem Inv.jJ {nK:List (Addr×Obj)} (I:Inv X pins σ H s) (h: ∀p∈nK,s.heap.get? p.1=some p.2/\H p.1=none/\p.1≠X.env.locals/\p.1∉X.fs/\ ∀v,p.2.data≠ .cell v):Inv X nK σ H s:=
 ⟨I.ok,I.os,I.bare,I.base,I.loc,I.cell,I.free,I.dw,fun p hp=>(List.mem_append.mp hp).elim (fun z=>I.pin p (List.mem_append_left _ z)) (h p),I.aX,I.len⟩
theorem lQ {N:List Str} (hN:N.Nodup) {i j:Nat} {x:Str} (a:N[i]? =some x) (b:N[j]? =some x):i=j:=by
 obtain ⟨h1,e1⟩:=List.getElem?_eq_some_iff.mp a
 obtain ⟨h2,e2⟩:=List.getElem?_eq_some_iff.mp b
 exact (List.getElem_inj hN).mp (e1.trans e2.symm)
theorem wW {M:Model} {A:Around} {E:Value->Shared->Prop} {i:Nat} {x:Str} {v:V} {u:Value} {Q:Unit->Shared->Prop} (I:Inv X pins σ H s) (hN:X.N.Nodup) (hi:X.N[i]? =some x) (hx:Loc X.env.scope x) (r:RelV v u)
  (h: ∀s',Inv X pins (σ.set i (some v)) H s'->(∃a,Heap.SameBut a s.heap s'.heap/\(a=X.env.locals\/X.env.cells.lookup x=some a))->Q () s') (hf:X.fn x=true\/X.env.scope.names.lookup x=some .local:=by first | exact .inl rfl | exact .inr rfl | assumption):wpAny M A (storeName X.env x u) Q E s:=by
 obtain ⟨m,hn,hl⟩:=id I.loc
 have tW:(X.env.scope.kind== .class||(X.env.scope.kind== .module&&X.env.locals != X.env.globals))=false:=by rw[I.ok.kind];rfl
 have UZ:i<σ.length:=by rw[I.len];exact (List.getElem?_eq_some_iff.mp hi).1
 have Cu:=I.Cu
 have tracked: ∀{a:Addr} {h':Heap},(∃o,s.heap.get? a=some o/\H a=none)->Heap.SameBut a s.heap h'->gD X.prog X.w H h':=fun {a h'} ha hs b ob e=>by
  obtain ⟨_,_,EF⟩:=ha
  refine (I.aX b ob e).lA (fun c w' hc q=>(hs.2 c ?_).trans q) (fun _ q=>q) fun _ _ q=>q
  rintro rfl
  rcases hc with rfl | hc
  ·rw[EF]at e;cases e
  ·rw[EF]at hc;cases hc
 rcases hx with hk | hk
 ·refine wpAny_storeName_local hk hn (fun h' Pg hs=>?_) tW
  obtain ⟨oL,_,_,U0,_⟩:=id hn
  refine h _ ⟨I.ok,I.os,I.bare,⟨fun b o e n hb hx=>?_,fun b o e n hb hx=>?_,I.base.free,fun b o e hx=>?_,I.base.jl,I.base.i8,I.base.jH⟩,⟨_,Pg,fun j y v' e1 e2 e3=>?_⟩,fun y c e=>?_,I.free,I.dw,fun p hp=>?_,tracked ⟨oL,U0,I.free⟩ hs,by simpa using I.len⟩ ⟨_,hs, .inl rfl⟩
  ·exact (hs.2 b (Nat.ne_of_lt (Nat.lt_of_lt_of_le (Heap.lt_size e) I.ok.above))).trans (I.base.keep b o e n hb hx)
  ·obtain ⟨sl,e1⟩:=I.base.slot b o e n hb hx
   exact ⟨sl,(hs.2 b (Nat.ne_of_lt (Nat.lt_of_lt_of_le (Heap.lt_size e) I.ok.above))).trans e1⟩
  ·obtain ⟨o',e1⟩:=I.base.there b o e hx
   exact ⟨o',(hs.2 b (Nat.ne_of_lt (Nat.lt_of_lt_of_le (Heap.lt_size e) I.ok.above))).trans e1⟩
  ·by_cases hj:j=i
   ·subst hj
    rw[hi]at e1;cases e1
    rw[List.getElem?_set_self UZ]at e2
    cases e2
    exact ⟨u,r, .inl ⟨hk,by simp⟩⟩
   ·rw[List.getElem?_set_ne (Ne.symm hj)]at e2
    obtain ⟨u',r',q⟩:=hl j y v' e1 e2 e3
    refine ⟨u',r',?_⟩
    rcases q with ⟨k,e⟩ | ⟨k,c,e,z⟩
    ·refine .inl ⟨k,?_⟩
     have:y≠x:=fun e=>hj (lQ hN e1 (e▸hi))
     simp[this,e]
    ·exact .inr ⟨k,c,e,z.sameBut hs (Cu y c e)⟩
  ·obtain ⟨w',z⟩:=I.cell y c e
   exact ⟨w',z.sameBut hs (Cu y c e)⟩
  ·obtain ⟨e,n,ne,nf,d⟩:=I.pin p hp
   exact ⟨(hs.2 p.1 ne).trans e,n,ne,nf,d⟩
 ·have Ph:X.fn x=true:=by
   rcases hf with z | z
   ·exact z
   ·rw[z]at hk;cases hk
  obtain ⟨c,hc⟩:=I.ok.has x (.inl hk)
  obtain ⟨w',z⟩:=I.cell x c hc
  refine wpAny_storeName_cell I.ok.kind hk hc z (fun h' wX hs=>?_)
  obtain ⟨oc,U1,Pj⟩:=id z
  refine h { s with heap:=h' } ⟨I.ok,I.os,I.bare,⟨fun b o e n hb hx=>?_,fun b o e n hb hx=>?_,I.base.free,fun b o e hx=>?_,I.base.jl,I.base.i8,I.base.jH⟩,⟨m,hn.sameBut hs (Ne.symm (Cu x c hc)),fun j y v' e1 e2 e3=>?_⟩,fun y c' e=>?_,I.free,I.dw,fun p hp=>?_,tracked ⟨oc,U1,I.dw x c hc⟩ hs,by simpa using I.len⟩ ⟨c,hs, .inr hc⟩
  ·exact (hs.2 b (Nat.ne_of_lt (Nat.lt_of_lt_of_le (Heap.lt_size e) (I.ok.EB x c Ph hc)))).trans (I.base.keep b o e n hb hx)
  ·obtain ⟨sl,e1⟩:=I.base.slot b o e n hb hx
   exact ⟨sl,(hs.2 b (Nat.ne_of_lt (Nat.lt_of_lt_of_le (Heap.lt_size e) (I.ok.EB x c Ph hc)))).trans e1⟩
  ·obtain ⟨o',e1⟩:=I.base.there b o e hx
   exact ⟨o',(hs.2 b (Nat.ne_of_lt (Nat.lt_of_lt_of_le (Heap.lt_size e) (I.ok.EB x c Ph hc)))).trans e1⟩
  ·by_cases hj:j=i
   ·subst hj
    rw[hi]at e1;cases e1
    rw[List.getElem?_set_self UZ]at e2
    cases e2
    exact ⟨u,r, .inr ⟨.inl hk,c,hc,wX⟩⟩
   ·rw[List.getElem?_set_ne (Ne.symm hj)]at e2
    obtain ⟨u',r',q⟩:=hl j y v' e1 e2 e3
    refine ⟨u',r',?_⟩
    rcases q with q | ⟨k,c',e,z'⟩
    ·exact .inl q
    ·refine .inr ⟨k,c',e,z'.sameBut hs ?_⟩
     rintro rfl
     exact hj (lQ hN e1 (I.ok.inj _ _ _ e hc▸hi))
  ·by_cases U2:c'=c
   ·subst U2;exact ⟨_,wX⟩
   ·obtain ⟨w2,z2⟩:=I.cell y c' e
    exact ⟨w2,z2.sameBut hs U2⟩
  ·obtain ⟨e,n,ne,nf,d⟩:=I.pin p hp
   refine ⟨(hs.2 p.1 ?_).trans e,n,ne,nf,d⟩
   intro q
   rw[q,U1]at e
   have q':oc=p.2:=Option.some.inj e
   exact d w' (by rw[<-q'];exact Pj)
theorem fv {M:Model} {A:Around} {E:Value->Shared->Prop} {i:Nat} {x:Str} {v:V} {u:Value} {Q:Unit->Shared->Prop} (I:Inv X pins σ H s) (hN:X.N.Nodup) (hi:X.N[i]? =some x) (hx:Loc X.env.scope x) (r:RelV v u)
  (h: ∀s',Inv X pins (σ.set i (some v)) H s'->Q () s') (hf:X.fn x=true\/X.env.scope.names.lookup x=some .local:=by first | exact .inl rfl | exact .inr rfl | assumption):wpAny M A (storeName X.env x u) Q E s:=
 wW I hN hi hx r (fun s' I' _=>h s' I') hf
theorem Inv.EG {s':Shared} {ch:List Addr} (I:Inv X pins σ H s) (ho:s'.os=s.os) (u:Un (jE X.stack) ch H H' s.heap s'.heap) (aX:gD X.prog X.w H' s'.heap) (hg:AllBare s'.gens)
  (B7: ∀b∈ch,(b∈X.ex\/X.s₀.heap.objs.size<=b)/\b≠X.env.locals/\(∀x c,X.env.cells.lookup x=some c->c≠b)/\ ∀p∈X.pn++pins,p.1≠b):Inv X pins σ H' s':=by
 obtain ⟨h',g',d',t',o'⟩:=s'
 have e:o'=s.os:=ho
 subst e
 exact I.call (g':=g') (t':=t') (d':=d') u aX hg B7
end
abbrev XK:=Value->Option Addr->Hp->Prop
abbrev St:=List (Option V)
abbrev VK:=V->Hp->Prop
abbrev TE:=St->Hp->VK->Prop
abbrev TT:=St->Hp->(Bool->Hp->Prop)->Prop
abbrev TA:=St->Hp->(List V->Hp->Prop)->Prop
structure Ends where
 nx:St->Hp->Prop
 rt:VK
 bk:St->Hp->Prop:=fun _ _=>False
 ct:St->Hp->Prop:=fun _ _=>False
abbrev TS:=Ends->St->Hp->Prop
def EP (X:Cx) (pins:List (Addr×Obj)) (σ:St) (Q:VK) (u:Value) (s':Shared):Prop:= ∃v H',Inv X pins σ H' s'/\RelV v u/\Q v H'
def TP (X:Cx) (pins:List (Addr×Obj)) (σ:St) (Q:Bool->Hp->Prop) (b:Bool) (s':Shared):Prop:= ∃H',Inv X pins σ H' s'/\Q b H'
def AP (X:Cx) (pins:List (Addr×Obj)) (σ:St) (Q:List V->Hp->Prop) (us:List Value) (s':Shared):Prop:= ∃vs H',Inv X pins σ H' s'/\Vals vs us/\Q vs H'
def SP (X:Cx) (pins:List (Addr×Obj)) (D:Ends) (f:Flow) (s':Shared):Prop:=
 match f with
 | .next=> ∃σ' H',Inv X pins σ' H' s'/\D.nx σ' H'
 | .brk=> ∃σ' H',Inv X pins σ' H' s'/\D.bk σ' H'
 | .cont=> ∃σ' H',Inv X pins σ' H' s'/\D.ct σ' H'
 | .ret u=> ∃v σ' H',Inv X pins σ' H' s'/\RelV v u/\D.rt v H'
def PE (X:Cx) (e:Expr) (t:TE):Prop:=
 ∀(pins:List (Addr×Obj)) (s:Shared) (σ:St) (H:Hp) (Q:VK),Inv X pins σ H s->t σ H Q->wpAny (model X.prog X.w) X.A (eval e X.env) (EP X pins σ Q) X.xe s
def PT (X:Cx) (e:Expr) (t:TT):Prop:=
 ∀(pins:List (Addr×Obj)) (s:Shared) (σ:St) (H:Hp) (Q:Bool->Hp->Prop),Inv X pins σ H s->t σ H Q->wpAny (model X.prog X.w) X.A (isTrue e X.env (eval e X.env)) (TP X pins σ Q) X.xe s
def PW (X:Cx) (e:Expr) (t:TT):Prop:=
 ∀(whole:Sem Value) (pins:List (Addr×Obj)) (s:Shared) (σ:St) (H:Hp) (Q:Bool->Hp->Prop),Inv X pins σ H s->t σ H Q->wpAny (model X.prog X.w) X.A (isTrue e X.env whole) (TP X pins σ Q) X.xe s
theorem PW.pt {X:Cx} {e:Expr} {t:TT} (h:PW X e t):PT X e t:=h _
def PA (X:Cx) (es:List Expr) (t:TA):Prop:=
 ∀(pos:Pos) (pins:List (Addr×Obj)) (s:Shared) (σ:St) (H:Hp) (Q:List V->Hp->Prop),Inv X pins σ H s->t σ H Q->wpAny (model X.prog X.w) X.A (spliced (backTo pos (starEach es X.env))) (AP X pins σ Q) X.xe s
def PS (X:Cx) (st:Stmt) (t:TS):Prop:=
 ∀(pins:List (Addr×Obj)) (s:Shared) (σ:St) (H:Hp) (D:Ends),Inv X pins σ H s->t D σ H->wpAny (model X.prog X.w) X.A (exec st X.env) (SP X pins D) X.xe s
def qM (X:Cx) (st:List Stmt) (t:TS):Prop:=
 ∀(pins:List (Addr×Obj)) (s:Shared) (σ:St) (H:Hp) (D:Ends),Inv X pins σ H s->t D σ H->wpAny (model X.prog X.w) X.A (execs st X.env) (SP X pins D) X.xe s
theorem bQ {α:Type} {t:Sem α} {Q Q':α->Shared->Prop} {M:Model} {A:Around} {E:Value->Shared->Prop} {s:Shared} (h:wpAny M A t Q E s) (hQ: ∀a s,Q a s->Q' a s):wpAny M A t Q' E s:=wpAny_mono h hQ fun _ _ x=>x
end L2
namespace L2
open PySem PySem.Spec PyProof.Rows
section
variable {X:Cx}
def zy (i:Nat):TE:=fun σ H Q=> ∃v,σ[i]? =some (some v)/\Q v H
def tC (v:V):TE:=fun _ H Q=>Q v H
theorem FR {i:Nat} {x:Str} {pos:Pos} (hN:X.N[i]? =some x) (hv:NH X.env.scope x) (hd:(x==("__debug__":Str))=false:=by decide) (nM:(x==("__classdict__":Str))=false:=by decide):PE X (.Name x pos) (zy i):=by
 intro pins s σ H Q I h
 obtain ⟨v,e,h⟩:=h
 obtain ⟨m,hn,hl⟩:=I.loc
 obtain ⟨u,r,l⟩:=hl i x v hN e hv
 have fin:EP X pins σ Q u s:=⟨v,H,I,r,h⟩
 rcases l with ⟨hk,hm⟩ | ⟨hk,c,hc,gU⟩
 ·exact wpAny_Name (wpAny_loadName_local I.ok.kind hk hn hm fin) hd
 ·rcases hk with hk | hk
  ·exact wpAny_Name (wpAny_loadName_cell I.ok.kind hk hc gU fin) hd
  ·exact wpAny_Name (wpAny_loadName_free I.ok.kind hk hc gU fin nM) hd
theorem ah {i j pos}:PE X (.Constant (.int i) j pos) (tC (.int i)):=fun _ _ _ H _ I h=>wpAny_Constant_int ⟨.int i,H,I.tok _,⟨_,rfl⟩,h⟩
theorem dm {b j pos}:PE X (.Constant (.bool b) j pos) (tC (.bl b)):=fun _ _ _ H _ I h=>Constant_bool ⟨.bl b,H,I,rfl,h⟩
theorem kh {j pos}:PE X (.Constant .none j pos) (tC .bY):=fun _ _ _ H _ I h=>Constant_none ⟨.bY,H,I,rfl,h⟩
theorem FT {x j pos}:PE X (.Constant (.str x) j pos) (tC (.str x)):=fun _ _ _ H _ I h=>Calls.Constant_str ⟨.str x,H,I.tok _,⟨_,rfl⟩,h⟩
def Gl (X:Cx) (x:Str):Prop:=X.env.kindOf x=some .globalImplicit
theorem iI {E:Value->Shared->Prop} {pins:List (Addr×Obj)} {s:Shared} {σ:St} {H:Hp} {x:Str} {u:Value} {pos:Pos} {Q:Value->Shared->Prop} (I:Inv X pins σ H s) (hg:Gl X x) (hm:X.mg x=some u) (h:Q u s)
  (hd:(x==("__debug__":Str))=false:=by decide):wpAny (model X.prog X.w) X.A (eval (.Name x pos) X.env) Q E s:=
 Calls.Name_function_global I.ok.kind hg (Calls.loadGlobal_global (by rw[I.ok.glob];exact I.mod.glob.keeps I.bk) hm h) hd
theorem dz {E:Value->Shared->Prop} {pins:List (Addr×Obj)} {s:Shared} {σ:St} {H:Hp} {x:Str} {u:Value} {pos:Pos} {Q:Value->Shared->Prop} (I:Inv X pins σ H s) (hg:Gl X x) (hm:X.mg x=none) (hv:bootBuiltins x=some u) (h:Q u s)
  (hn:x≠"__name__":=by decide) (hd:(x==("__debug__":Str))=false:=by decide):wpAny (model X.prog X.w) X.A (eval (.Name x pos) X.env) Q E s:=by
 obtain ⟨mb,h1,h2⟩:=I.mod.blt
 exact Calls.Name_function_global I.ok.kind hg (Calls.loadGlobal_builtin (by rw[I.ok.glob];exact I.mod.glob.keeps I.bk) hm (by rw[I.ok.blt];exact h1.keeps I.bk) ((h2 x hn).trans hv) h) hd
theorem cM {x:Str} {v:V} {u:Value} {pos:Pos} (hg:Gl X x) (hm:X.mg x=some u) (r:RelV v u) (hd:(x==("__debug__":Str))=false:=by decide):PE X (.Name x pos) (tC v):=
 fun _ _ _ H _ I h=>iI I hg hm ⟨v,H,I,r,h⟩ hd
theorem pJ {x:Str} {v:V} {u:Value} {pos:Pos} (hg:Gl X x) (hm:X.mg x=none) (hv:bootBuiltins x=some u) (r:RelV v u) (hn:x≠"__name__":=by decide) (hd:(x==("__debug__":Str))=false:=by decide):PE X (.Name x pos) (tC v):=
 fun _ _ _ H _ I h=>dz I hg hm hv ⟨v,H,I,r,h⟩ hn hd
variable {a b:Expr} {ta tb:TE} {pos:Pos}
def PC (X:Cx) (op:CmpOp) (a b:Expr) (t:TE):Prop:=
 ∀(pins:List (Addr×Obj)) (s:Shared) (σ:St) (H:Hp) (Q:VK),Inv X pins σ H s->t σ H Q->
  wpAny (model X.prog X.w) X.A (eval a X.env) (fun v s₁=>wpAny (model X.prog X.w) X.A (eval b X.env) (fun u s₂=>wpAny (model X.prog X.w) X.A (compareOp op v u) (EP X pins σ Q) X.xe s₂) X.xe s₁) X.xe s
def tB (t:TE):TT:=fun σ H Q=>t σ H fun x H1=> ∃c,x= .bl c/\Q c H1
theorem FU {op:CmpOp} {t:TE} (h:PC X op a b t) (h1:behindInMarks op b=false:=by first | exact Kd _ (by decide) (by decide) | rfl):PT X (.Compare a [op] [b] pos) (tB t):=by
 intro pins s σ H Q I hw
 refine wpAny_isTrue_Compare1 (bQ (h pins s σ H _ I hw) fun v s1 h1=>bQ h1 fun u s2 h2=>bQ h2 fun c s3 ⟨x,H1,I1,r1,q1⟩=>?_) h1
 obtain ⟨d,rfl,q⟩:=q1
 cases r1
 exact wpAny_truthy_bool ⟨H1,I1,q⟩
theorem fW {e:Expr} {t:TE} (h:PE X e t) (he: ∀whole,isTrue e X.env whole=(do let v <-whole;standAt e.pos;holding [v] (truthy v)):=by intro _;rfl):PT X e (tB t):=by
 intro pins s σ H Q I hw
 refine isTrue_plain (bQ (h pins s σ H _ I hw) fun v s1 ⟨x,H1,I1,r1,q1⟩=>?_) (he _)
 obtain ⟨d,rfl,q⟩:=q1
 cases r1
 exact wpAny_truthy_bool ⟨H1,I1,q⟩
variable {tA NI:TT} {rest:List Expr}
def Pk (t u:TT):TT:=fun σ H Q=>t σ H fun c H1=>if c=true then u σ H1 Q else Q false H1
def Xh (t u:TT):TT:=fun σ H Q=>t σ H fun c H1=>if c=true then Q true H1 else u σ H1 Q
def Pl (t:TT):TT:=fun σ H Q=>t σ H fun c H1=>Q (!c) H1
theorem lJ (ha:PT X a tA):PW X (.BoolOp .And [a] pos) tA:=by
 intro wh pins s σ H Q I h
 refine isTrue_and (bQ (ha pins s σ H Q I h) fun c s1 e=>?_)
 cases c with
 | true=>exact isTrue_and_nil e
 | false=>exact e
theorem gW (ha:PT X a tA):PW X (.BoolOp .Or [a] pos) tA:=by
 intro wh pins s σ H Q I h
 refine isTrue_or (bQ (ha pins s σ H Q I h) fun c s1 e=>?_)
 cases c with
 | false=>exact isTrue_or_nil e
 | true=>exact e
theorem ki (ha:PT X a tA) (hb:PW X (.BoolOp .And (b::rest) pos) NI):PW X (.BoolOp .And (a::b::rest) pos) (Pk tA NI):=by
 intro wh pins s σ H Q I h
 refine isTrue_and (bQ (ha pins s σ H _ I h) fun c s1 ⟨H1,I1,q1⟩=>?_)
 cases c with
 | true=>exact hb wh pins s1 σ H1 Q I1 q1
 | false=>exact ⟨H1,I1,q1⟩
theorem jc (ha:PT X a tA) (hb:PW X (.BoolOp .Or (b::rest) pos) NI):PW X (.BoolOp .Or (a::b::rest) pos) (Xh tA NI):=by
 intro wh pins s σ H Q I h
 refine isTrue_or (bQ (ha pins s σ H _ I h) fun c s1 ⟨H1,I1,q1⟩=>?_)
 cases c with
 | true=>exact ⟨H1,I1,q1⟩
 | false=>exact hb wh pins s1 σ H1 Q I1 q1
theorem cU (ha:PT X a tA):PT X (.UnaryOp .Not a pos) (Pl tA):=by
 intro pins s σ H Q I h
 exact isTrue_not (ha pins s σ H (fun c H1=>Q (!c) H1) I h)
def EH (ta:TE):TE:=fun σ H Q=>ta σ H fun x H1=> ∃c,x= .bl c/\Q (.bl (!c)) H1
theorem FV (ha:PE X a ta):PE X (.UnaryOp .Not a pos) (EH ta):=by
 intro pins s σ H Q I h
 refine UnaryOp_ (bQ (ha pins s σ H _ I h) fun v s1 ⟨x,H1,I1,r1,q1⟩=>?_)
 obtain ⟨c,rfl,q1⟩:=q1
 cases r1
 exact not_of (wpAny_truthy_bool ⟨.bl (!c),H1,I1,rfl,q1⟩)
end
end L2
namespace L2
open PySem PySem.Spec PyProof.Rows
def aJ (K:PySem.W.Frag) (H:Hp) (a:Addr) (xs:List V):Prop:=
 Rd H a (.lst xs)\/
  ∃(o:Obj) (aL:Array Value) (n:Nat),K.lookup a=some o/\o.cls= .type "list"/\o.dict=none/\o.data= .seq aL n/\aL.size<=sizeLine/\Vals xs aL.toList
def aN (K:PySem.W.Frag) (H:Hp) (a:Addr) (xs:List V):Prop:=
 Rd H a (.tup xs)\/
  ∃(o:Obj) (aL:Array Value) (n:Nat),K.lookup a=some o/\o.cls= .type "tuple"/\o.data= .seq aL n/\aL.size<=sizeLine/\Vals xs aL.toList
noncomputable def Pm:Value->Option V
 | .none=>some .bY
 | .bool b=>some (.bl b)
 | .int i _=>some (.int i)
 | .str x _=>some (.str x)
 | .bytes b _=>some (.yW b)
 | .float b _=>some (.zv b)
 | .ref a=>some (.ref a)
 | .type n=>some (.ty n)
 | _=>none
theorem RelV.abs {x:V} {u:Value} (r:RelV x u):Pm u=some x:=by
 cases x with
 | bY=>cases r;rfl
 | bl _=>cases r;rfl
 | int _=>obtain ⟨t,rfl⟩:=r;rfl
 | str _=>obtain ⟨t,rfl⟩:=r;rfl
 | yW _=>obtain ⟨t,rfl⟩:=r;rfl
 | zv _=>obtain ⟨t,rfl⟩:=r;rfl
 | ref _=>cases r;rfl
 | ty _=>cases r;rfl
theorem RelV.inj {x y:V} {u:Value} (r:RelV x u) (q:RelV y u):x=y:=Option.some.inj (r.abs.symm.trans q.abs)
theorem Vals.inj: ∀{xs ys:List V} {us:List Value},Vals xs us->Vals ys us->xs=ys
 | _,_,_, .nil, .nil=>rfl
 | _,_,_, .cons r t, .cons r' t'=>by rw[r.inj r',Vals.inj t t']
section
variable {X:Cx} {pins:List (Addr×Obj)} {σ:St} {H:Hp} {s:Shared} {a:Addr} {xs ys:List V}
theorem aJ.of {K:PySem.W.Frag} (h:H a=some (.lst xs)):aJ K H a xs:= .inl (.inl h)
theorem aN.of {K:PySem.W.Frag} (h:H a=some (.tup xs)):aN K H a xs:= .inl (.inl h)
theorem Inv.list (I:Inv X pins σ H s) (h:aJ X.K H a xs): ∃aL:List Value,Vals xs aL/\PlainL s.heap a aL.toArray/\xs.length<=sizeLine:=by
 rcases h with h | ⟨o,aL,n,hk,hc,hd,hs,hz,r⟩
 ·obtain ⟨z,aL,n,r,e⟩:=h.ok I.aX
  exact ⟨aL,r,⟨_,n,e,rfl,rfl,rfl⟩,z⟩
 ·refine ⟨aL.toList,r,⟨o,n,I.jn a o hk,hc,hd,by simpa using hs⟩,?_⟩
  have e:=r.length
  simp only[Array.length_toList]at e
  omega
theorem Inv.tuple (I:Inv X pins σ H s) (h:aN X.K H a xs): ∃aL:List Value,Vals xs aL/\IsTup s.heap a aL.toArray/\xs.length<=sizeLine:=by
 rcases h with h | ⟨o,aL,n,hk,hc,hs,hz,r⟩
 ·obtain ⟨z,aL,r,p⟩:=h.ok I.aX
  exact ⟨aL,r,p,z⟩
 ·refine ⟨aL.toList,r,⟨o,I.jn a o hk,hc,n,by simpa using hs⟩,?_⟩
  have e:=r.length
  simp only[Array.length_toList]at e
  omega
theorem Inv.lR (I:Inv X pins σ H s) (h:aJ X.K H a xs) (h':aJ X.K H a ys):xs=ys:=by
 obtain ⟨aL,r,⟨o,n,e,_,_,d⟩,_⟩:=I.list h
 obtain ⟨its',r',⟨o',n',e',_,_,d'⟩,_⟩:=I.list h'
 rw[e]at e';cases e'
 rw[d]at d'
 injection d' with d1 _
 have:aL=its':=by simpa using congrArg Array.toList d1
 subst this
 exact r.inj r'
theorem Inv.kj (I:Inv X pins σ H s) (h:aN X.K H a xs) (h':aN X.K H a ys):xs=ys:=by
 obtain ⟨aL,r,⟨o,e,_,n,d⟩,_⟩:=I.tuple h
 obtain ⟨its',r',⟨o',e',_,n',d'⟩,_⟩:=I.tuple h'
 rw[e]at e';cases e'
 rw[d]at d'
 injection d' with d1 _
 have:aL=its':=by simpa using congrArg Array.toList d1
 subst this
 exact r.inj r'
end
noncomputable abbrev Cx.nk (X:Cx) (E:Value->Shared->Prop):Cx:={ X with xe:=E }
noncomputable abbrev Cx.NJ (X:Cx):Cx:=X.nk fun _ _=>False
theorem Cx.Ok.nk {X:Cx} (ok:X.Ok) (E:Value->Shared->Prop):(X.nk E).Ok:=
 ⟨ok.mod,ok.kind,ok.glob,ok.blt,ok.above,ok.inj,ok.has,ok.EB,ok.hd,ok.frames,ok.EC,ok.Kb,ok.bs,ok.yY,ok.qL,ok.tV,ok.jm,ok.B6⟩
theorem Cx.Ok.gX {X:Cx} {E:Value->Shared->Prop} (ok:(X.nk E).Ok):X.Ok:=
 ⟨ok.mod,ok.kind,ok.glob,ok.blt,ok.above,ok.inj,ok.has,ok.EB,ok.hd,ok.frames,ok.EC,ok.Kb,ok.bs,ok.yY,ok.qL,ok.tV,ok.jm,ok.B6⟩
section
variable {X:Cx} {pins:List (Addr×Obj)} {σ:St} {H:Hp} {s:Shared} {E:Value->Shared->Prop}
theorem Inv.nk (I:Inv X pins σ H s) (E:Value->Shared->Prop):Inv (X.nk E) pins σ H s:=⟨I.ok.nk E,I.os,I.bare,I.base,I.loc,I.cell,I.free,I.dw,I.pin,I.aX,I.len⟩
theorem Inv.gX (I:Inv (X.nk E) pins σ H s):Inv X pins σ H s:=⟨I.ok.gX,I.os,I.bare,I.base,I.loc,I.cell,I.free,I.dw,I.pin,I.aX,I.len⟩
theorem SP.gX {D:Ends} {f:Flow} {s':Shared} (h:SP (X.nk E) pins D f s'):SP X pins D f s':=by
 cases f with
 | next=>obtain ⟨σ',H',I,q⟩:=h;exact ⟨σ',H',I.gX,q⟩
 | brk=>obtain ⟨σ',H',I,q⟩:=h;exact ⟨σ',H',I.gX,q⟩
 | cont=>obtain ⟨σ',H',I,q⟩:=h;exact ⟨σ',H',I.gX,q⟩
 | ret u=>obtain ⟨v,σ',H',I,r,q⟩:=h;exact ⟨v,σ',H',I.gX,r,q⟩
theorem qM.NJ {st:List Stmt} {t:TS} (h:qM X.NJ st t):qM X st t:=fun pins s σ H D I hw=>
 wpAny_mono (h pins s σ H D (I.nk _) hw) (fun _ _ q=>q.gX) fun _ _ z=>False.elim z
end
section
variable {X:Cx} {st:Stmt} {rest:List Stmt} {t u:TS} {e:Expr} {te:TE} {pos:Pos}
def Ke:TS:=fun D σ H=>D.nx σ H
def i9 (t u:TS):TS:=fun D σ H=>t { D with nx:=u D } σ H
theorem aY:qM X [] Ke:=fun _ _ σ H _ I h=>wpAny_execs_nil ⟨σ,H,I,h⟩
theorem ag (h1:PS X st t) (h2:qM X rest u):qM X (st::rest) (i9 t u):=by
 intro pins s σ H D I h
 refine wpAny_execs_cons (bQ (h1 pins s σ H { D with nx:=u D } I h) fun f s1 q=>?_)
 cases f with
 | next=>
  obtain ⟨σ',H',I',q⟩:=q
  exact h2 pins s1 σ' H' D I' q
 | ret v=>exact q
 | brk=>exact q
 | cont=>exact q
theorem ak (h1:PS X st t):qM X [st] t:=by
 intro pins s σ H D I h
 refine wpAny_execs_cons (bQ (h1 pins s σ H D I h) fun f s1 q=>?_)
 cases f with
 | next=>exact wpAny_execs_nil q
 | ret v=>exact q
 | brk=>exact q
 | cont=>exact q
theorem Inv.quiet {pins:List (Addr×Obj)} {σ:St} {H:Hp} {s:Shared} (I:Inv X pins σ H s):interactive X.env=false:=by simp[interactive,I.ok.kind]
def Kf (te:TE):TS:=fun D σ H=>te σ H fun _ H1=>D.nx σ H1
theorem bE (he:PE X e te) (hs:swapsWith e none pos.line X.env=pure false:=by rfl):PS X (.Expr e pos) (Kf te):=by
 intro pins s σ H D I h
 exact wpAny_Expr_any (bQ (he pins s σ H _ I h) fun v s1 ⟨x,H1,I1,r1,q1⟩=>⟨σ,H1,I1,q1⟩) I.quiet hs
def Pn (te:TE):TS:=fun D σ H=>te σ H D.rt
theorem aQ (he:PE X e te):PS X (.Return (some e) pos) (Pn te):=by
 intro pins s σ H D I h
 exact wpAny_Return_some (bQ (he pins s σ H _ I h) fun v s1 ⟨x,H1,I1,r1,q1⟩=>⟨x,σ,H1,I1,r1,q1⟩)
def Po (c:TT) (t u:TS):TS:=fun D σ H=>c σ H fun b H1=>if b=true then t D σ H1 else u D σ H1
theorem bH {c:Expr} {a b:List Stmt} {tc:TT} (hc:PT X c tc) (ha:qM X a t) (hb:qM X b u):PS X (.If c a b pos) (Po tc t u):=by
 intro pins s σ H D I h
 refine wpAny_If (bQ (hc pins s σ H _ I h) fun d s1 ⟨H1,I1,q1⟩=>?_)
 cases d with
 | true=>exact ha pins s1 σ H1 D I1 q1
 | false=>exact hb pins s1 σ H1 D I1 q1
end
abbrev TG:=V->St->Hp->(St->Hp->Prop)->Prop
abbrev B8:=List V->St->Hp->(St->Hp->Prop)->Prop
def PG (X:Cx) (target:Expr) (t:TG):Prop:=
 ∀(pins:List (Addr×Obj)) (s:Shared) (σ:St) (H:Hp) (v:V) (u:Value) (Q:St->Hp->Prop),Inv X pins σ H s->RelV v u->t v σ H Q->
  wpAny (model X.prog X.w) X.A (assign target X.env u) (fun _ s'=> ∃σ' H',Inv X pins σ' H' s'/\Q σ' H') X.xe s
def Ju (X:Cx) (ts:List Expr) (t:B8):Prop:=
 ∀(pins:List (Addr×Obj)) (s:Shared) (σ:St) (H:Hp) (vs:List V) (us:List Value) (Q:St->Hp->Prop),Inv X pins σ H s->Vals vs us->t vs σ H Q->
  wpAny (model X.prog X.w) X.A (assignInOrder ((assignEach ts X.env).map (·.2)) us) (fun _ s'=> ∃σ' H',Inv X pins σ' H' s'/\Q σ' H') X.xe s
abbrev FW:=V->V->V->Hp->(Hp->Prop)->Prop
def Kg (X:Cx) (t:FW):Prop:=
 ∀(pins:List (Addr×Obj)) (s:Shared) (σ:St) (H:Hp) (o i v:V) (ov iv u:Value) (Q:Hp->Prop),Inv X pins σ H s->RelV o ov->RelV i iv->RelV v u->t o i v H Q->
  wpAny (model X.prog X.w) X.A (setItem ov iv u) (fun _ s'=> ∃H',Inv X pins σ H' s'/\Q H') X.xe s
section
variable {X:Cx} {pos:Pos}
def vq (i:Nat):TG:=fun v σ H Q=>Q (σ.set i (some v)) H
theorem aD {i:Nat} {x:Str} (hN:X.N.Nodup) (hi:X.N[i]? =some x) (hx:Loc X.env.scope x) (hf:X.fn x=true\/X.env.scope.names.lookup x=some .local:=by first | exact .inl rfl | exact .inr rfl | assumption):PG X (.Name x pos) (vq i):=by
 intro pins s σ H v u Q I r h
 exact wpAny_assign_Name (fv I hN hi hx r (fun s' I'=>⟨_,H,I',h⟩) hf)
def Pp:B8:=fun vs σ H Q=>vs=[]/\Q σ H
def Kh (t:TG) (u:B8):B8:=fun vs σ H Q=> ∃v r,vs=v::r/\t v σ H fun σ' H'=>u r σ' H' Q
theorem bV:Ju X [] Pp:=by
 intro pins s σ H vs us Q I r h
 obtain ⟨e,h⟩:=h
 subst e
 cases r
 exact assignInOrder_nil ⟨σ,H,I,h⟩
theorem aP {e:Expr} {es:List Expr} {t:TG} {u:B8} (h1:PG X e t) (h2:Ju X es u)
  (hs:(assignEach (e::es) X.env).map (·.2)=assign e X.env::(assignEach es X.env).map (·.2):=by rfl):Ju X (e::es) (Kh t u):=by
 intro pins s σ H vs us Q I r h
 obtain ⟨v,vr,e1,h⟩:=h
 subst e1
 cases r with
 | cons r rr=>
  rw[hs]
  refine assignInOrder_cons (bQ (h1 pins s σ H _ _ _ I r h) fun _ s1 ⟨σ1,H1,I1,q1⟩=>?_)
  exact h2 pins s1 σ1 H1 _ _ Q I1 rr q1
def Ki (K:PySem.W.Frag) (n:Nat) (t:B8):TG:=fun v σ H Q=> ∃a xs,v= .ref a/\aN K H a xs/\xs.length=n/\t xs σ H Q
theorem FX {es:List Expr} {k:Nat} {t:B8} {n:Nat} (hc:X.calm=true) (h:Ju X es t)
  (hn:(assignEach es X.env).length=n:=by rfl) (Kj:(assignEach es X.env).findIdx? (·.1)=none:=by rfl):PG X (.Tuple es k pos) (Ki X.K n t):=by
 intro pins s σ H v u Q I r hw
 obtain ⟨a,xs,e1,hq,hl,hw⟩:=hw
 subst e1
 cases r
 obtain ⟨aL,rv,ht,hz⟩:=I.tuple hq
 refine assign_Tuple_tuple (I.ok.hd hc) ht (by simp[hn, <-hl,rv.length]) Kj fun h' hx=>?_
 have I1:Inv X pins σ H { s with heap:=h' }:=I.kept (t':=s.toks) fun b o e=>hx b o (Nat.ne_of_lt (Heap.lt_size e)) e
 exact h pins _ σ H xs _ Q I1 (by simpa using rv) hw
def Pq (to ti:TE) (t:FW):TG:=fun v σ H Q=>to σ H fun o H1=>ti σ H1 fun i H2=>t o i v H2 fun H3=>Q σ H3
theorem gY {o i:Expr} {to ti:TE} {t:FW} (ho:PE X o to) (hi:PE X i ti) (hs:Kg X t)
  (ha: ∀v,assign (.Subscript o i pos) X.env v=(do
   let ov <-holding [v] (eval o X.env)
   let iv <-holding [v,ov] (eval i X.env)
   standAt pos
   holding [v,ov,iv] (setItem ov iv v)
   release [v,ov,iv] []):=by intro _;rfl):PG X (.Subscript o i pos) (Pq to ti t):=by
 intro pins s σ H v u Q I r h
 rw[ha]
 refine wpAny_bind (wpAny_holding (bQ (ho pins s σ H _ I h) fun ov s1 ⟨x,H1,I1,r1,q1⟩=>?_))
 refine wpAny_bind (wpAny_holding (bQ (hi pins s1 σ H1 _ I1 q1) fun iv s2 ⟨y,H2,I2,r2,q2⟩=>?_))
 refine wpAny_bind (wpAny_standAt (wpAny_bind (wpAny_holding (bQ (hs pins s2 σ H2 x y v ov iv u _ I2 r1 r2 r q2) fun _ s3 ⟨H3,I3,q3⟩=>?_))))
 exact wpAny_release ⟨σ,H3,I3,q3⟩
def Cv (te:TE) (g:TG):TS:=fun D σ H=>te σ H fun x H1=>g x σ H1 D.nx
theorem fX {tg e:Expr} {te:TE} {g:TG} (he:PE X e te) (hg:PG X tg g) (hs:swapsWithSole [tg] e pos.line X.env=pure false:=by rfl) (hw:swappedStores [tg] e X.env=pure none:=by rfl)
  (h1:(assignEach [tg] X.env).map (·.2)=[assign tg X.env]:=by rfl):PS X (.Assign [tg] e pos) (Cv te g):=by
 intro pins s σ H D I h
 refine wpAny_Assign_stores (bQ (he pins s σ H _ I h) fun v s1 ⟨x,H1,I1,r1,q1⟩=>?_) hs hw
 rw[h1]
 exact bQ (hg pins s1 σ H1 x v _ I1 r1 q1) fun _ s2 q=>q
theorem aB {i:Nat} {x:Str} {e:Expr} {te:TE} {pos':Pos} (hN:X.N.Nodup) (hi:X.N[i]? =some x) (hx:Loc X.env.scope x) (he:PE X e te) (hs:swapsWith e (some (.Name x pos')) pos.line X.env=pure false:=by rfl) (hf:X.fn x=true\/X.env.scope.names.lookup x=some .local:=by first | exact .inl rfl | exact .inr rfl | assumption):
  PS X (.Assign [.Name x pos'] e pos) (Cv te (vq i)):=by
 intro pins s σ H D I h
 refine wpAny_Assign_Name (bQ (he pins s σ H _ I h) fun v s1 ⟨y,H1,I1,r1,q1⟩=>?_) hs
 exact fv I1 hN hi hx r1 (fun s2 I2=>⟨_,H1,I2,q1⟩) hf
def Pu (i j:Nat) (ta:TA):TS:=fun D σ H=>ta σ H fun vs H1=> ∃v w,vs=[v,w]/\D.nx ((σ.set i (some v)).set j (some w)) H1
theorem zA {i j:Nat} {x y:Str} {a b:Expr} {ta:TA} {px py pt:Pos} {kt k2 Pw} (hc:X.calm=true) (hN:X.N.Nodup) (hi:X.N[i]? =some x) (hj:X.N[j]? =some y) (Px:i≠j)
  (hx:X.env.scope.names.lookup x=some .local) (hy:X.env.scope.names.lookup y=some .local) (ha:PA X [a,b] ta)
  (hw:swappedStores [.Tuple [.Name x px, .Name y py] kt pt] (.Tuple [a,b] k2 Pw) X.env=pure (some [x,y]))
  (hs:swapsWithSole [.Tuple [.Name x px, .Name y py] kt pt] (.Tuple [a,b] k2 Pw) pos.line X.env=pure false:=by rfl):
  PS X (.Assign [.Tuple [.Name x px, .Name y py] kt pt] (.Tuple [a,b] k2 Pw) pos) (Pu i j ta):=by
 intro pins s σ H D I h
 rw[exec_Assign_arm]
 refine wpAny_bind (wpAny_standAt ?_)
 rw[hs]
 refine wpAny_bind (wpAny_pure ?_)
 rw[if_neg (by decide)]
 refine wpAny_bind (Tuple_ (bQ (ha _ pins s σ H _ I h) fun us s1 ⟨vs,H1,I1,r1,q1⟩=>?_))
 obtain ⟨v,w,e1,q1⟩:=q1
 subst e1
 obtain ⟨u1,u2,rfl,rv,wY⟩: ∃u1 u2,us=[u1,u2]/\RelV v u1/\RelV w u2:=by
  cases r1 with
  | cons p q=>
   cases q with
   | cons p' q'=>
    cases q'
    exact ⟨_,_,rfl,p,p'⟩
 refine wpAny_newObj_type ?_ (by show 2<=sizeLine;decide)
 have I2:Inv X pins σ H1 { s1 with heap:=s1.heap.push { cls:= .type "tuple",data:= .seq [u1,u2].toArray } }:=I1.kept (t':=s1.toks) fun b o e=>Heap.get?_push_of_some _ e
 rw[hw]
 refine wpAny_bind (wpAny_pure ?_)
 show wpAny (model X.prog X.w) X.A (do rule "assign.swapped-stores";let items <-unpackItems (.ref s1.heap.objs.size) 2 none;assignInOrder [fun v=>bindName X.env y v,fun v=>bindName X.env x v] items.reverse;pure Flow.next) _ _ _
 refine wpAny_bind (wpAny_rule (wpAny_bind (unpackItems_tuple (items:= #[u1,u2]) (I.ok.hd hc) (IsTup.new s1.heap _) fun h' Py=>?_)))
 have I3:=I2.kept (h':=h') (t':=s1.toks) fun b o e=>Py b o (Nat.ne_of_lt (Heap.lt_size e)) e
 show wpAny _ _ (assignInOrder [fun v=>bindName X.env y v,fun v=>bindName X.env x v] [u2,u1] >>= fun _=>pure Flow.next) _ _ _
 refine wpAny_bind (assignInOrder_cons (wpAny_bindName (fv I3 hN hj (.inl hy) wY (fun s2 I4=>?_) (.inr hy))))
 refine assignInOrder_cons (wpAny_bindName (fv I4 hN hi (.inl hx) rv (fun s3 I5=>assignInOrder_nil (wpAny_pure ?_)) (.inr hx)))
 rw[List.set_comm _ _ (Ne.symm Px)]at I5
 exact ⟨_,H1,I5,q1⟩
end
section
variable {X:Cx} {pos:Pos}
end
structure It where
 go:Nat->Hp->Prop
 yZ:Nat->Hp->V->Hp->Prop
 stop:Nat->Hp->Prop
def km (X:Cx) (pins:List (Addr×Obj)) (H:Hp) (b:Addr):Prop:=
 H b=none/\b≠X.env.locals/\b∉X.fs/\(b∈X.ex\/X.s₀.heap.objs.size<=b)/\(∀x c,X.env.cells.lookup x=some c->c≠b)/\ ∀p∈X.pn++pins,p.1≠b
theorem Inv.lS {X:Cx} {pins:List (Addr×Obj)} {σ:St} {H H':Hp} {s:Shared} {b:Addr} (I:Inv X pins σ H s) (hb:s.heap.objs.size<=b) (hn:H' b=none):km X pins H' b:=by
 refine ⟨hn,Nat.ne_of_gt (Nat.lt_of_lt_of_le I.lt hb),I.FP hb, .inr (Nat.le_trans I.sz hb),fun x c e z=>?_,fun p hp z=>?_⟩
 ·obtain ⟨v,q⟩:=I.cell x c e
  exact absurd (Nat.lt_of_lt_of_le q.lt (by rw[z];exact hb)) (Nat.lt_irrefl _)
 ·exact absurd (Nat.lt_of_lt_of_le (Heap.lt_size (I.pin p hp).1) (by rw[z];exact hb)) (Nat.lt_irrefl _)
structure Turn (P:Program) (w:World) (K:PySem.W.Frag) (tg:Expr) (J:It) (fp:List Addr) (it:Addr) (tn:Nat->Heap->Prop):Prop where
 mem:it∈fp
 obj: ∀i h,tn i h-> ∀b∈fp, ∃o,h.get? b=some o/\ ∀v,o.data≠ .cell v
 keep: ∀i h h',tn i h->(∀b∈fp, ∀o,h.get? b=some o->h'.get? b=some o)->tn i h'
 item: ∀(X:Cx),X.prog=P->X.w=w->X.K=K->X.calm=true-> ∀(i:Nat) (pins:List (Addr×Obj)) (s:Shared) (σ:St) (H:Hp) (E:Value->Shared->Prop),Inv X pins σ H s->(∀b∈fp,km X pins H b)->tn i s.heap->J.go i H->
  wpAny (model P w) X.A (pyNext (.ref it)) (fun r s1=> ∃u,r=some u/\
   wpAny (model P w) X.A (letOwnedTupleGo tg (.ref it) u) (fun _ s2=> ∃x H',Inv X pins σ H' s2/\RelV x u/\J.yZ i H x H'/\tn (i+1) s2.heap/\ ∀b∈fp,H' b=none) E s1) E s
 done: ∀(X:Cx),X.prog=P->X.w=w->X.K=K->X.calm=true-> ∀(i:Nat) (pins:List (Addr×Obj)) (s:Shared) (σ:St) (H:Hp) (E:Value->Shared->Prop),Inv X pins σ H s->(∀b∈fp,km X pins H b)->tn i s.heap->J.stop i H->
  wpAny (model P w) X.A (pyNext (.ref it)) (fun r s1=>r=none/\Inv X pins σ H s1) E s
 self: ∀(A:Around) (i:Nat) (s:Shared) (Q:Value->Shared->Prop) (E:Value->Shared->Prop),tn i s.heap->Q (.ref it) s->wpAny (model P w) A (pyIter (.ref it)) Q E s
abbrev TI:=St->Hp->(It->Hp->Prop)->Prop
def U3 (X:Cx) (pins:List (Addr×Obj)) (σ:St) (tg:Expr) (R:It->Hp->Prop) (Pz:Value) (s2:Shared):Prop:=
 ∃(it:Addr) (fp:List Addr) (tn:Nat->Heap->Prop) (J:It) (H':Hp),Pz= .ref it/\Inv X pins σ H' s2/\Turn X.prog X.w X.K tg J fp it tn/\tn 0 s2.heap/\(∀b∈fp,km X pins H' b)/\R J H'
def PI (X:Cx) (tg iter:Expr) (wi:TI):Prop:=
 ∀(pins:List (Addr×Obj)) (s:Shared) (σ:St) (H:Hp) (R:It->Hp->Prop),Inv X pins σ H s->wi σ H R->
  wpAny (model X.prog X.w) X.A (eval iter X.env) (fun v s1=>wpAny (model X.prog X.w) X.A (pyIter v) (U3 X pins σ tg R) X.xe s1) X.xe s
theorem vt {M:Model} {A:Around} {E:Value->Shared->Prop} {s:Shared} {tg:Expr} {it:Addr} {u:Value} {o:Obj} {n:String} {vs:Array Value} {Q:Unit->Shared->Prop} (ho:s.heap.get? it=some o) (hc:o.cls= .type n) (hd:o.data= .fields vs)
  (hn:["enumerate","zip","dict_itemiterator","dict_reverseitemiterator","odict_iterator","itertools.zip_longest","itertools.pairwise"].contains n=false) (hQ:Q () s):wpAny M A (letOwnedTupleGo tg (.ref it) u) Q E s:=by
 unfold letOwnedTupleGo
 cases tg<;>first
  | exact wpAny_pure hQ
  |(cases u<;>first
    | exact wpAny_pure hQ
    |(refine wpAny_bind (wpAny_load ho ?_)
      rw[hc,hd]
      show wpAny M A (if (["enumerate","zip","dict_itemiterator","dict_reverseitemiterator","odict_iterator","itertools.zip_longest","itertools.pairwise"].contains n&&vs[0]? ==some (rawInt _))=true then _ else _) Q E s
      rw[if_neg (by intro h;rw[hn,Bool.false_and]at h;cases h)]
      exact wpAny_pure hQ))
noncomputable def Jv (K:PySem.W.Frag) (a:Addr):It:=
 ⟨fun i H=> ∃xs x,aJ K H a xs/\xs[i]? =some x,fun i H x H'=>H'=H/\ ∀xs,aJ K H a xs->xs[i]? =some x,fun i H=> ∃xs,aJ K H a xs/\xs.length<=i⟩
noncomputable def PD (K:PySem.W.Frag) (a:Addr):It:=
 ⟨fun i H=> ∃xs x,aN K H a xs/\xs[i]? =some x,fun i H x H'=>H'=H/\ ∀xs,aN K H a xs->xs[i]? =some x,fun i H=> ∃xs,aN K H a xs/\xs.length<=i⟩
noncomputable def EI (lo:Int) (n:Nat):It:=⟨fun i _=>i<n,fun i H x H'=>H'=H/\x= .int (lo+i),fun i _=>n<=i⟩
theorem wZ {P:Program} {w:World} {K:PySem.W.Frag} {tg:Expr} (a it:Addr):Turn P w K tg (Jv K a) [it] it (fun i h=>h.IsListIter it a i) where
 mem:=by simp
 obj:=fun i h st b hb=>by
  have e:b=it:=by simpa using hb
  subst e
  obtain ⟨o,e,c,d⟩:=st
  exact ⟨o,e,fun v z=>by rw[d]at z;cases z⟩
 keep:=fun i h h' st k=>st.at fun o e=>k it (by simp) o e
 item:=by
  intro X hP hw hK hc i pins s σ H E I hf st hg
  subst hP hw hK
  obtain ⟨xs,x,hq,hx⟩:=hg
  obtain ⟨aL,rv,p,hz⟩:=I.list hq
  obtain ⟨u,hu,ru⟩:=rv.get hx
  obtain ⟨f0,f1,f2,f3,f4,f5⟩:=hf it (by simp)
  refine wpAny_pyNext_list_item st p.isList (x:=u) (by simpa using hu) fun h' tX sb=>?_
  have I1:Inv X pins σ H { s with heap:=h' }:=I.turned (t':=s.toks) (fun b o hb e=>(sb.2 b hb).trans e) f0 f1 f3 f4 f5
  obtain ⟨o,e,c,d⟩:=id tX
  exact ⟨u,rfl,vt (s:={ s with heap:=h' }) e c d (by decide) ⟨x,H,I1,ru,⟨rfl,fun ys hy=>by rw[I.lR hy hq];exact hx⟩,tX,fun b hb=>(hf b hb).1⟩⟩
 done:=by
  intro X hP hw hK hc i pins s σ H E I hf st hg
  subst hP hw hK
  obtain ⟨xs,hq,hx⟩:=hg
  obtain ⟨aL,rv,p,hz⟩:=I.list hq
  obtain ⟨f0,f1,f2,f3,f4,f5⟩:=hf it (by simp)
  have hl:=rv.length
  exact wpAny_pyNext_list_end (I.ok.hd hc) st p.isList (by simp;omega) fun h' eb=>⟨rfl,I.turned (t':=s.toks) (fun b o hb e=>eb b o hb e) f0 f1 f3 f4 f5⟩
 self:=fun _ _ _ _ _ st h=>wpAny_pyIter_listiter st h
theorem tY {P:Program} {w:World} {K:PySem.W.Frag} {tg:Expr} (a it:Addr):Turn P w K tg (PD K a) [it] it (fun i h=>h.IsTupleIter it a i) where
 mem:=by simp
 obj:=fun i h st b hb=>by
  have e:b=it:=by simpa using hb
  subst e
  obtain ⟨o,e,c,d⟩:=st
  exact ⟨o,e,fun v z=>by rw[d]at z;cases z⟩
 keep:=fun i h h' st k=>st.at fun o e=>k it (by simp) o e
 item:=by
  intro X hP hw hK hc i pins s σ H E I hf st hg
  subst hP hw hK
  obtain ⟨xs,x,hq,hx⟩:=hg
  obtain ⟨aL,rv,p,hz⟩:=I.tuple hq
  obtain ⟨u,hu,ru⟩:=rv.get hx
  obtain ⟨f0,f1,f2,f3,f4,f5⟩:=hf it (by simp)
  refine wpAny_pyNext_tuple_item st (show s.heap.IsTuple a aL.toArray from p) (x:=u) (by simpa using hu) fun h' tX sb=>?_
  have I1:Inv X pins σ H { s with heap:=h' }:=I.turned (t':=s.toks) (fun b o hb e=>(sb.2 b hb).trans e) f0 f1 f3 f4 f5
  obtain ⟨o,e,c,d⟩:=id tX
  exact ⟨u,rfl,vt (s:={ s with heap:=h' }) e c d (by decide) ⟨x,H,I1,ru,⟨rfl,fun ys hy=>by rw[I.kj hy hq];exact hx⟩,tX,fun b hb=>(hf b hb).1⟩⟩
 done:=by
  intro X hP hw hK hc i pins s σ H E I hf st hg
  subst hP hw hK
  obtain ⟨xs,hq,hx⟩:=hg
  obtain ⟨aL,rv,p,hz⟩:=I.tuple hq
  obtain ⟨f0,f1,f2,f3,f4,f5⟩:=hf it (by simp)
  have hl:=rv.length
  exact wpAny_pyNext_tuple_end (I.ok.hd hc) st (show s.heap.IsTuple a aL.toArray from p) (by simp;omega) fun h' eb=>⟨rfl,I.turned (t':=s.toks) (fun b o hb e=>eb b o hb e) f0 f1 f3 f4 f5⟩
 self:=fun _ _ _ _ _ st h=>wpAny_pyIter_tupleiter st h
theorem tZ {P:Program} {w:World} {K:PySem.W.Frag} {tg:Expr} (it:Addr) (lo:Int) (n:Nat):Turn P w K tg (EI lo n) [it] it (fun i h=>IsRangeIter h it (lo+(i:Nat)*1) ((n:Int) - (i:Nat)) 1) where
 mem:=by simp
 obj:=fun i h st b hb=>by
  have e:b=it:=by simpa using hb
  subst e
  exact ⟨_,st,fun v z=>by
   have z':Data.fields _=Data.cell v:=z
   cases z'⟩
 keep:=fun i h h' st k=>k it (by simp) _ st
 item:=by
  intro X hP hw hK hc i pins s σ H E I hf st hg
  subst hP hw hK
  obtain ⟨f0,f1,f2,f3,f4,f5⟩:=hf it (by simp)
  have W:=Walks.range (prog:=X.prog) (w:=X.w) (I.ok.hd hc) it lo 1 n
  refine W.item i s _ _ hg st fun v h' tk hv tX kk=>?_
  obtain ⟨t,rfl⟩:=hv
  have I1:Inv X pins σ H { s with heap:=h',toks:=tk }:=I.turned (fun b o hb e=>kk b o (by simpa using hb) e) f0 f1 f3 f4 f5
  refine ⟨_,rfl,vt (s:={ s with heap:=h',toks:=tk }) (n:="range_iterator") tX rfl rfl (by decide) ⟨.int (lo+i),H,I1,⟨t,?_⟩,⟨rfl,rfl⟩,tX,fun b hb=>(hf b hb).1⟩⟩
  rw[Int.mul_one]
 done:=by
  intro X hP hw hK hc i pins s σ H E I hf st hg
  subst hP hw hK
  obtain ⟨f0,f1,f2,f3,f4,f5⟩:=hf it (by simp)
  exact wpAny_pyNext_range_end (I.ok.hd hc) st (by have:n<=i:=hg;omega) fun h' eb=>⟨rfl,I.turned (t':=s.toks) (fun b o hb e=>eb b o hb e) f0 f1 f3 f4 f5⟩
 self:=fun _ _ _ _ _ st h=>wpAny_pyIter_rangeiter st h
end L2
namespace L2
open PySem PySem.Spec PyProof.Rows
section
variable {X:Cx} {tg:Expr}
def EJ (K:PySem.W.Frag) (tl:TE):TI:=fun σ H R=>tl σ H fun x H1=> ∃a,x= .ref a/\(∃xs,aJ K H1 a xs)/\R (Jv K a) H1
def Kk (K:PySem.W.Frag) (tl:TE):TI:=fun σ H R=>tl σ H fun x H1=> ∃a,x= .ref a/\(∃xs,aN K H1 a xs)/\R (PD K a) H1
theorem Cw {l:Expr} {tl:TE} (hl:PE X l tl):PI X tg l (EJ X.K tl):=by
 intro pins s σ H R I h
 refine bQ (hl pins s σ H _ I h) fun v s1 ⟨x,H1,I1,r1,q1⟩=>?_
 obtain ⟨a,e,⟨xs,hq⟩,q⟩:=q1
 subst e
 cases r1
 obtain ⟨aL,rv,p,hz⟩:=I1.list hq
 refine wpAny_pyIter_list p.isList ?_
 refine ⟨s1.heap.objs.size,[s1.heap.objs.size],_,_,H1,rfl,I1.kept (t':=s1.toks) fun b o e=>Heap.get?_push_of_some _ e,wZ a _,⟨_,Heap.get?_push_size _ rfl,rfl,rfl⟩,fun b hb=>?_,q⟩
 have e:b=s1.heap.objs.size:=by simpa using hb
 subst e
 exact I1.lS (Nat.le_refl _) (I1.aX.fresh (Nat.le_refl _))
theorem FY {l:Expr} {tl:TE} (hl:PE X l tl):PI X tg l (Kk X.K tl):=by
 intro pins s σ H R I h
 refine bQ (hl pins s σ H _ I h) fun v s1 ⟨x,H1,I1,r1,q1⟩=>?_
 obtain ⟨a,e,⟨xs,hq⟩,q⟩:=q1
 subst e
 cases r1
 obtain ⟨aL,rv,p,hz⟩:=I1.tuple hq
 refine wpAny_pyIter_tuple (show s1.heap.IsTuple a aL.toArray from p) ?_
 refine ⟨s1.heap.objs.size,[s1.heap.objs.size],_,_,H1,rfl,I1.kept (t':=s1.toks) fun b o e=>Heap.get?_push_of_some _ e,tY a _,⟨_,Heap.get?_push_size _ rfl,rfl,rfl⟩,fun b hb=>?_,q⟩
 have e:b=s1.heap.objs.size:=by simpa using hb
 subst e
 exact I1.lS (Nat.le_refl _) (I1.aX.fresh (Nat.le_refl _))
theorem qN {pins:List (Addr×Obj)} {σ:St} {H:Hp} {s:Shared} {R:It->Hp->Prop} {E:Value->Shared->Prop} {lo hi:Int} {t u v:Tok} {tk:Nat} (I:Inv X pins σ H s) (h1: -(2 ^ 62)<=lo) (h2:lo<2 ^ 62) (h3: -(2 ^ 62)<=hi) (h4:hi<2 ^ 62)
  (q:R (EI lo (hi - lo).toNat) H):wpAny (model X.prog X.w) X.A (pyIter (.ref s.heap.objs.size)) (U3 X pins σ tg R) E { s with heap:=s.heap.push { cls:= .type "range",data:= .fields #[.int lo t, .int hi u, .int 1 v] },toks:=tk }:=by
 refine wpAny_pyIter_range (IsRange.new ..) (small_one h1 h2 h3 h4) ?_
 have I1:Inv X pins σ H { s with heap:=s.heap.push { cls:= .type "range",data:= .fields #[.int lo t, .int hi u, .int 1 v] },toks:=tk }:=I.kept fun b o e=>Heap.get?_push_of_some _ e
 refine ⟨(s.heap.push { cls:= .type "range",data:= .fields #[.int lo t, .int hi u, .int 1 v] }).objs.size,[(s.heap.push { cls:= .type "range",data:= .fields #[.int lo t, .int hi u, .int 1 v] }).objs.size],_,_,H,rfl,
  I1.kept (t':=tk) fun b o e=>Heap.get?_push_of_some _ e,tZ _ lo (hi - lo).toNat,?_,fun b hb=>?_,q⟩
 ·have e1:lo+((0:Nat):Int)*1=lo:=by simp
  have e2:(((hi - lo).toNat:Nat):Int) - ((0:Nat):Int)=Builtin.Range.rangeSize lo hi 1:=by rw[rangeSize_one];split<;>omega
  show IsRangeIter _ _ (lo+((0:Nat):Int)*1) ((((hi - lo).toNat:Nat):Int) - ((0:Nat):Int)) 1
  rw[e1,e2]
  exact Heap.get?_push_size _ rfl
 ·have e:b=(s.heap.push { cls:= .type "range",data:= .fields #[.int lo t, .int hi u, .int 1 v] }).objs.size:=by simpa using hb
  subst e
  exact I1.lS (Nat.le_refl _) (I1.aX.fresh (Nat.le_refl _))
def Kl (ta:TA):TI:=fun σ H R=>ta σ H fun vs H1=> ∃j:Int,vs=[.int j]/\ -(2 ^ 62)<=j/\j<2 ^ 62/\R (EI 0 j.toNat) H1
def Km (ta:TA):TI:=fun σ H R=>ta σ H fun vs H1=> ∃i j:Int,vs=[.int i, .int j]/\(-(2 ^ 62)<=i/\i<2 ^ 62/\ -(2 ^ 62)<=j/\j<2 ^ 62)/\R (EI i (j - i).toNat) H1
theorem eh {a:Expr} {ta:TA} {p pos:Pos} (hg:Gl X "range") (hm:X.mg "range"=none) (ha:PA X [a] ta) (hs:starEach [a] X.env=[(false,eval a X.env)]:=by rfl):PI X tg (.Call (.Name "range" p) [a] [] pos) (Kl ta):=by
 intro pins s σ H R I h
 refine Call_ (dz I hg hm boot_range (PyProof.Rows.callWith_type1 (bQ (ha pos pins s σ H _ I h) fun us s1 ⟨vs,H1,I1,r1,q1⟩=>?_) hs rfl))
 obtain ⟨j,e,q1,q2,q⟩:=q1
 subst e
 cases r1 with
 | cons r rr=>
  cases rr
  obtain ⟨t,rfl⟩:=r
  exact call_range_1 (qN I1 (by omega) (by omega) q1 q2 (by simpa using q))
theorem nN {a b:Expr} {ta:TA} {p pos:Pos} (hg:Gl X "range") (hm:X.mg "range"=none) (ha:PA X [a,b] ta) (hs:starEach [a,b] X.env=[(false,eval a X.env),(false,eval b X.env)]:=by rfl) (nr:starEach [b] X.env=[(false,eval b X.env)]:=by rfl):
  PI X tg (.Call (.Name "range" p) [a,b] [] pos) (Km ta):=by
 intro pins s σ H R I h
 refine Call_ (dz I hg hm boot_range (PyProof.Rows.callWith_type1 (bQ (ha pos pins s σ H _ I h) fun us s1 ⟨vs,H1,I1,r1,q1⟩=>?_) (by rw[hs,nr]) (by rw[nr];rfl)))
 obtain ⟨i,j,e,⟨q1,q2,q3,q4⟩,q⟩:=q1
 subst e
 cases r1 with
 | cons r rr=>
  cases rr with
  | cons r' rr=>
   cases rr
   obtain ⟨t,rfl⟩:=r
   obtain ⟨t',rfl⟩:=r'
   exact call_range_2 (qN I1 q1 q2 q3 q4 q)
def PH (wi:TI) (g:TG) (tb:TS):TS:=fun D σ H=>wi σ H fun J H1=> ∃W:Nat->Nat->St->Hp->Prop,(∃m,W 0 m σ H1)/\ ∀i m σ H,W i m σ H->
 (J.stop i H/\D.nx σ H)\/(J.go i H/\ ∃N:St->Hp->Prop,(∀σ' H',N σ' H'-> ∃m',m'<m/\W (i+1) m' σ' H')/\ ∀x H',J.yZ i H x H'->g x σ H' fun σ2 H2=>tb { D with nx:=N,ct:=N,bk:=D.nx } σ2 H2)
noncomputable def lT (fp:List Addr) (h:Heap):List (Addr×Obj):=fp.filterMap fun b=>(h.get? b).map fun o=>(b,o)
theorem gE {fp:List Addr} {h:Heap} {b:Addr} {o:Obj} (hb:b∈fp) (e:h.get? b=some o):(b,o)∈lT fp h:=List.mem_filterMap.mpr ⟨b,hb,by rw[e];rfl⟩
theorem w5 {fp:List Addr} {h:Heap} {p:Addr×Obj} (hp:p∈lT fp h):p.1∈fp/\h.get? p.1=some p.2:=by
 obtain ⟨b,hb,e⟩:=List.mem_filterMap.mp hp
 cases q:h.get? b with
 | none=>rw[q]at e;cases e
 | some o=>
  rw[q]at e
  have e':(b,o)=p:=Option.some.inj e
  subst e'
  exact ⟨hb,q⟩
theorem Inv.pinned {pins:List (Addr×Obj)} {σ:St} {H:Hp} {s:Shared} {fp:List Addr} (I:Inv X pins σ H s) (hf: ∀b∈fp,km X pins H b) (ho: ∀b∈fp, ∃o,s.heap.get? b=some o/\ ∀v,o.data≠ .cell v):Inv X (pins++lT fp s.heap) σ H s:=
 I.jJ fun p hp=>(List.mem_append.mp hp).elim (fun z=>I.pin p (List.mem_append_right _ z)) fun z=>by
  obtain ⟨hb,e⟩:=w5 z
  obtain ⟨f0,f1,f2,_⟩:=hf p.1 hb
  obtain ⟨o,e',d⟩:=ho p.1 hb
  rw[e]at e';cases e'
  exact ⟨e,f0,f1,f2,d⟩
theorem Inv.gZ {pins pl:List (Addr×Obj)} {σ:St} {H:Hp} {s:Shared} (I:Inv X (pins++pl) σ H s):Inv X pins σ H s:=I.jJ fun p hp=>I.pin p (List.mem_append_right _ (List.mem_append_left _ hp))
theorem cn {iter:Expr} {body:List Stmt} {wi:TI} {g:TG} {tb:TS} {pos:Pos} (hp:PassesOwn (model X.prog X.w) X.A X.env X.xe) (hc:X.calm=true) (hi:PI X tg iter wi) (hg:PG X tg g) (hb:qM X body tb)
  (hs: ∀x,foldedSetIterable iter X.env x=pure x:=by intro _;rfl):PS X (.For tg iter body [] pos) (PH wi g tb):=by
 intro pins s σ H D I h
 refine wpAny_For (bQ (hi pins s σ H _ I h) fun v s1 h1=>bQ h1 fun Pz s2 h2=>?_) hs
 obtain ⟨it,fp,tn,J,H2,e,I2,T,iJ,f2,W,⟨m0,w0⟩,turn⟩:=h2
 subst e
 -- Xi stays true of Cy FZ objects through Cy loop
 have F_: ∀{H':Hp},(∀b∈fp,H' b=none)-> ∀b∈fp,km X pins H' b:=fun hn b hb=>⟨hn b hb,(f2 b hb).2⟩
 refine codeAny_forLoop_any (fun n s'=> ∃i σ' H',Inv X pins σ' H' s'/\tn i s'.heap/\(∀b∈fp,H' b=none)/\W i n σ' H') ?_ m0 ⟨0,σ,H2,I2,iJ,fun b hb=>(f2 b hb).1,w0⟩
 rintro n s3 ⟨i,σ3,H3,I3,y0,y6,w3⟩
 rcases turn i n σ3 H3 w3 with ⟨stop,qn⟩ | ⟨go,N,hN,step⟩
 ·refine wpAny_passesOwn hp (bQ (T.done X rfl rfl rfl hc i pins s3 σ3 H3 X.xe I3 (F_ y6) y0 stop) fun r s4 ⟨hr,I4⟩=>?_)
  subst hr
  exact wpAny_execs_nil ⟨σ3,H3,I4,qn⟩
 ·refine wpAny_passesOwn hp (bQ (T.item X rfl rfl rfl hc i pins s3 σ3 H3 X.xe I3 (F_ y6) y0 go) fun r s4 ⟨u,hr,h4⟩=>?_)
  subst hr
  refine wpAny_passesOwn hp (bQ h4 fun _ s5 ⟨x,H5,I5,r5,y5,y7,EK⟩=>?_)
  have PJ:=I5.pinned (F_ EK) (T.obj _ _ y7)
  refine wpAny_passesOwn hp (bQ (hg _ s5 σ3 H5 x u _ PJ r5 (step x H5 y5)) fun _ s6 ⟨σ6,H6,I6,q6⟩=>?_)
  refine wpAny_passesOwn hp (bQ (hb _ s6 σ6 H6 _ I6 q6) fun f s7 q7=>?_)
  have again: ∀{σ7:St} {H7:Hp},Inv X (pins++lT fp s5.heap) σ7 H7 s7->N σ7 H7-> ∃m,m<n/\ ∃i σ' H',Inv X pins σ' H' s7/\tn i s7.heap/\(∀b∈fp,H' b=none)/\W i m σ' H':=fun {σ7 H7} I7 n7=>by
   obtain ⟨m',hm,w7⟩:=hN σ7 H7 n7
   refine ⟨m',hm,i+1,σ7,H7,I7.gZ,T.keep _ _ _ y7 fun b hb o e=>(I7.pin (b,o) (List.mem_append_right _ (List.mem_append_right _ (gE hb e)))).1,fun b hb=>?_,w7⟩
   obtain ⟨o,e,d⟩:=T.obj _ _ y7 b hb
   exact (I7.pin (b,o) (List.mem_append_right _ (List.mem_append_right _ (gE hb e)))).2.1
  cases f with
  | next=>obtain ⟨σ7,H7,I7,n7⟩:=q7;exact again I7 n7
  | cont=>obtain ⟨σ7,H7,I7,n7⟩:=q7;exact again I7 n7
  | brk=>obtain ⟨σ7,H7,I7,q7⟩:=q7;exact ⟨σ7,H7,I7.gZ,q7⟩
  | ret v=>obtain ⟨x7,σ7,H7,I7,r7,q7⟩:=q7;exact ⟨x7,σ7,H7,I7.gZ,r7,q7⟩
end
theorem jK {K:PySem.W.Frag} {a:Addr} {xs:List V} {g:TG} {tb:TS} {D:Ends} {σ:St} {H:Hp} (Pv:Nat->St->Hp->Prop) (h0:Pv 0 σ H) (hl: ∀i σ H,i<=xs.length->Pv i σ H->aJ K H a xs)
  (hs: ∀i x σ H,xs[i]? =some x->Pv i σ H->g x σ H fun σ2 H2=>tb { D with nx:=Pv (i+1),ct:=Pv (i+1),bk:=D.nx } σ2 H2) (hd: ∀σ H,Pv xs.length σ H->D.nx σ H):
  ∃W:Nat->Nat->St->Hp->Prop,(∃m,W 0 m σ H)/\ ∀i m σ H,W i m σ H->
   ((Jv K a).stop i H/\D.nx σ H)\/((Jv K a).go i H/\ ∃N:St->Hp->Prop,(∀σ' H',N σ' H'-> ∃m',m'<m/\W (i+1) m' σ' H')/\ ∀x H',(Jv K a).yZ i H x H'->g x σ H' fun σ2 H2=>tb { D with nx:=N,ct:=N,bk:=D.nx } σ2 H2):=by
 refine ⟨fun i m σ H=>m=xs.length - i/\i<=xs.length/\Pv i σ H,⟨xs.length,by simp,Nat.zero_le _,h0⟩,?_⟩
 rintro i m σ H ⟨rfl,hi,p⟩
 have q:=hl i σ H hi p
 by_cases eK:i<xs.length
 ·refine .inr ⟨⟨xs,xs[i],q,by simp[eK]⟩,Pv (i+1),fun σ' H' p'=>⟨xs.length - (i+1),by omega,rfl,eK,p'⟩,fun x H' y=>?_⟩
  obtain ⟨e,y⟩:=y
  subst e
  exact hs i x σ _ (y xs q) p
 ·have e:i=xs.length:=by omega
  subst e
  exact .inl ⟨⟨xs,q,Nat.le_refl _⟩,hd σ H p⟩
theorem fh {lo:Int} {n:Nat} {g:TG} {tb:TS} {D:Ends} {σ:St} {H:Hp} (Pv:Nat->St->Hp->Prop) (h0:Pv 0 σ H)
  (hs: ∀i σ H,i<n->Pv i σ H->g (.int (lo+i)) σ H fun σ2 H2=>tb { D with nx:=Pv (i+1),ct:=Pv (i+1),bk:=D.nx } σ2 H2) (hd: ∀σ H,Pv n σ H->D.nx σ H):
  ∃W:Nat->Nat->St->Hp->Prop,(∃m,W 0 m σ H)/\ ∀i m σ H,W i m σ H->
   ((EI lo n).stop i H/\D.nx σ H)\/((EI lo n).go i H/\ ∃N:St->Hp->Prop,(∀σ' H',N σ' H'-> ∃m',m'<m/\W (i+1) m' σ' H')/\ ∀x H',(EI lo n).yZ i H x H'->g x σ H' fun σ2 H2=>tb { D with nx:=N,ct:=N,bk:=D.nx } σ2 H2):=by
 refine ⟨fun i m σ H=>m=n - i/\i<=n/\Pv i σ H,⟨n,by simp,Nat.zero_le _,h0⟩,?_⟩
 rintro i m σ H ⟨rfl,hi,p⟩
 by_cases eK:i<n
 ·refine .inr ⟨eK,Pv (i+1),fun σ' H' p'=>⟨n - (i+1),by omega,rfl,eK,p'⟩,fun x H' y=>?_⟩
  obtain ⟨e,y⟩:=y
  subst e y
  exact hs i σ _ eK p
 ·have e:i=n:=by omega
  subst e
  exact .inl ⟨Nat.le_refl _,hd σ H p⟩
end L2
namespace L2
open PySem PySem.Spec PyProof.Rows
abbrev R2:=V->V->Hp->VK->Prop
def gc (X:Cx) (f:Value->Value->Sem Value) (r:R2):Prop:=
 ∀(pins:List (Addr×Obj)) (s:Shared) (σ:St) (H:Hp) (x y:V) (v u:Value) (Q:VK),Inv X pins σ H s->RelV x v->RelV y u->r x y H Q->
  wpAny (model X.prog X.w) X.A (f v u) (EP X pins σ Q) X.xe s
def cS (X:Cx) (f:Value) (r:List V->Hp->VK->Prop):Prop:=
 ∀(pins:List (Addr×Obj)) (s:Shared) (σ:St) (H:Hp) (xs:List V) (us:List Value) (Q:VK),Inv X pins σ H s->Vals xs us->r xs H Q->
  wpAny (model X.prog X.w) X.A (call f us) (EP X pins σ Q) X.xe s
def Jw (r:R2) (ta tb:TE):TE:=fun σ H Q=>ta σ H fun x H1=>tb σ H1 fun y H2=>r x y H2 Q
def rI (C:Int->Int->Prop) (g:Int->Int->V):R2:=fun x y H Q=> ∃i j,x= .int i/\y= .int j/\C i j/\Q (g i j) H
def w9 (g:Int->Int->V):R2:=fun x y H Q=> ∃i j,x= .int i/\y= .int j/\Q (g i j) H
section
variable {X:Cx} {a b c:Expr} {ta tb tc:TE} {pos:Pos}
theorem Ga (ha:PE X a ta) (hb:PE X b tb) {pins:List (Addr×Obj)} {s:Shared} {σ:St} {H:Hp} {R:V->V->Hp->Prop} (I:Inv X pins σ H s)
  (h:ta σ H fun x H1=>tb σ H1 fun y H2=>R x y H2) {Q:Value->Shared->Prop} {f:Value->Value->Sem Value}
  (hf: ∀v u s2 x y H2,Inv X pins σ H2 s2->RelV x v->RelV y u->R x y H2->wpAny (model X.prog X.w) X.A (f v u) Q X.xe s2):
  wpAny (model X.prog X.w) X.A (eval a X.env) (fun v s₁=>wpAny (model X.prog X.w) X.A (eval b X.env) (fun u s₂=>wpAny (model X.prog X.w) X.A (f v u) Q X.xe s₂) X.xe s₁) X.xe s:=by
 refine bQ (ha pins s σ H _ I h) fun v s1 ⟨x,H1,I1,r1,q1⟩=>?_
 refine bQ (hb pins s1 σ H1 _ I1 q1) fun u s2 ⟨y,H2,I2,r2,q2⟩=>?_
 exact hf v u s2 x y H2 I2 r1 r2 q2
theorem aE {op:Operator} {r:R2} (ho:gc X (binaryOp op) r) (ha:PE X a ta) (hb:PE X b tb):PE X (.BinOp a op b pos) (Jw r ta tb):=by
 intro pins s σ H Q I h
 exact wpAny_BinOp (Ga ha hb I h fun v u s2 x y H2 I2 rx ry q=>ho pins s2 σ H2 x y v u Q I2 rx ry q)
theorem NK {f:Value->Value->Sem Value} {C:Int->Int->Prop} {g:Int->Int->Int}
  (rule: ∀(i j:Int) (t u:Tok) (s:Shared) (Q:Value->Shared->Prop) (E:Value->Shared->Prop),C i j->Q (.int (g i j) s.toks) { s with toks:=s.toks+1 }->wpAny (model X.prog X.w) X.A (f (.int i t) (.int j u)) Q E s):
  gc X f (rI C fun i j=> .int (g i j)):=by
 intro pins s σ H x y v u Q I rx ry h
 obtain ⟨i,j,rfl,rfl,hc,q⟩:=h
 obtain ⟨t,rfl⟩:=rx
 obtain ⟨t',rfl⟩:=ry
 exact rule i j t t' s _ _ hc ⟨.int (g i j),H,I.tok _,⟨_,rfl⟩,q⟩
theorem Kn {f:Value->Value->Sem Value} {g:Int->Int->Int}
  (rule: ∀(i j:Int) (t u:Tok) (s:Shared) (Q:Value->Shared->Prop) (E:Value->Shared->Prop),Q (.int (g i j) s.toks) { s with toks:=s.toks+1 }->wpAny (model X.prog X.w) X.A (f (.int i t) (.int j u)) Q E s):
  gc X f (w9 fun i j=> .int (g i j)):=by
 intro pins s σ H x y v u Q I rx ry h
 obtain ⟨i,j,rfl,rfl,q⟩:=h
 obtain ⟨t,rfl⟩:=rx
 obtain ⟨t',rfl⟩:=ry
 exact rule i j t t' s _ _ ⟨.int (g i j),H,I.tok _,⟨_,rfl⟩,q⟩
theorem Cz {f:Value->Value->Sem Value} {g:Int->Int->Bool}
  (rule: ∀(i j:Int) (t u:Tok) (s:Shared) (Q:Value->Shared->Prop) (E:Value->Shared->Prop),Q (.bool (g i j)) s->wpAny (model X.prog X.w) X.A (f (.int i t) (.int j u)) Q E s):
  gc X f (w9 fun i j=> .bl (g i j)):=by
 intro pins s σ H x y v u Q I rx ry h
 obtain ⟨i,j,rfl,rfl,q⟩:=h
 obtain ⟨t,rfl⟩:=rx
 obtain ⟨t',rfl⟩:=ry
 exact rule i j t t' s _ _ ⟨.bl (g i j),H,I,rfl,q⟩
def PK (i j:Int):Prop:=0<j/\j<1073741824
def PL (i j:Int):Prop:=0<=j/\j<=1000000/\i.natAbs<2 ^ 64
def Gb (i j:Int):Prop:=(-(2 ^ 64)<i/\i<2 ^ 64)\/(-(2 ^ 64)<j/\j<2 ^ 64)
theorem Gb.ok {i j:Int} (h:Gb i j):IntMulOk i j:=by
 rcases h with ⟨h1,h2⟩ | ⟨h1,h2⟩
 ·exact .of_left (intBits_le_64 h1 h2)
 ·exact .of_right (intBits_le_64 h1 h2)
theorem bz:gc X (binaryOp .Add) (w9 fun i j=> .int (i+j)):=Kn fun _ _ _ _ _ _ _ q=>add_int q
theorem cB:gc X (binaryOp .Sub) (w9 fun i j=> .int (i - j)):=Kn fun _ _ _ _ _ _ _ q=>sub_int q
theorem kn:gc X (binaryOp .Mult) (rI Gb fun i j=> .int (i*j)):=NK fun _ _ _ _ _ _ _ hc q=>mul_int q hc.ok
theorem vv:gc X (binaryOp .FloorDiv) (rI PK fun i j=> .int (i / j)):=NK fun i j _ _ _ _ _ hc q=>by
 have h1:(0:Int)<j:=hc.1
 have h2:j<1073741824:=hc.2
 exact floordiv_int (by omega) (by rw[Int.fdiv_eq_ediv_of_nonneg i (by omega)];exact q) (.inl (PyProof.noPylong_small (by omega)))
theorem gF:gc X (binaryOp .Mod) (rI (fun _ j=>0<j) fun i j=> .int (i%j)):=NK fun i j _ _ _ _ _ hc q=>by
 have h1:(0:Int)<j:=hc
 exact mod_int' (by omega) (by rw[Int.fmod_eq_emod_of_nonneg i (by omega)];exact q)
theorem lU:gc X (binaryOp .Pow) (rI PL fun i j=> .int (i ^ j.toNat)):=NK fun _ _ _ _ _ _ _ hc q=>pow_int_small hc.1 hc.2.1 hc.2.2 q
end
noncomputable def Ko:V->V->Bool
 | .bY, .bY=>true | .bY, .int _=>true | .int _, .bY=>true | .bY, .bl _=>true | .bl _, .bY=>true | .bY, .str _=>true | .str _, .bY=>true
 | .int _, .int _=>true | .bl _, .bl _=>true | .str _, .str _=>true | .yW _, .yW _=>true
 | .int _, .str _=>true | .str _, .int _=>true | .bl _, .str _=>true | .str _, .bl _=>true
 | _,_=>false
def Xj:R2:=fun x y H Q=>Ko x y=true/\Q (.bl (decide (x=y))) H
def Xk:R2:=fun x y H Q=>Ko x y=true/\Q (.bl (!decide (x=y))) H
theorem vw {i j:Int}:decide (V.int i=V.int j)=(i==j):=by
 rw[Bool.eq_iff_iff]
 simp
theorem zB {i j:Bool}:decide (V.bl i=V.bl j)=(i==j):=by
 rw[Bool.eq_iff_iff]
 simp
theorem vz {i j:Str}:decide (V.str i=V.str j)=(i==j):=by
 rw[Bool.eq_iff_iff]
 simp
theorem vA {i j:Array UInt8}:decide (V.yW i=V.yW j)=(i.toList==j.toList):=by
 rw[Bool.eq_iff_iff]
 cases i
 cases j
 simp
section
variable {X:Cx} {a b c:Expr} {ta tb tc:TE} {pos:Pos}
theorem bj {pins:List (Addr×Obj)} {σ:St} {H:Hp} {s:Shared} {Q:VK} {k k':Bool} (I:Inv X pins σ H s) (q:Q (.bl k) H) (e:k=k'):EP X pins σ Q (.bool k') s:=by
 subst e
 exact ⟨.bl k,H,I,rfl,q⟩
theorem EL:gc X (compareOp .Eq) Xj:=by
 intro pins s σ H x y v u Q I rx ry h
 obtain ⟨hs,q⟩:=h
 cases x with
 | bY=>
  cases rx
  cases y with
  | bY=>cases ry;exact PySem.EqNone.eq_none_none (bj I q (by simp))
  | bl j=>cases ry;exact PySem.EqNone.eq_none_bool (bj I q (by simp))
  | int j=>obtain ⟨t',rfl⟩:=ry;exact PySem.EqNone.eq_none_int (bj I q (by simp))
  | str j=>obtain ⟨t',rfl⟩:=ry;exact PySem.EqNone.eq_none_str (bj I q (by simp))
  | _=>exact absurd (show false=true from hs) Bool.false_ne_true
 | bl i=>
  cases rx
  cases y with
  | bY=>cases ry;exact PySem.EqNone.eq_bool_none (bj I q (by simp))
  | bl j=>cases ry;exact eq_bool (bj I q zB)
  | str j=>obtain ⟨t',rfl⟩:=ry;exact PySem.EqMixed.eq_bool_str (bj I q (by simp))
  | _=>exact absurd (show false=true from hs) Bool.false_ne_true
 | int i=>
  obtain ⟨t,rfl⟩:=rx
  cases y with
  | bY=>cases ry;exact PySem.EqNone.eq_int_none (bj I q (by simp))
  | int j=>obtain ⟨t',rfl⟩:=ry;exact eq_int (bj I q vw)
  | str j=>obtain ⟨t',rfl⟩:=ry;exact PySem.EqMixed.eq_int_str (bj I q (by simp))
  | _=>exact absurd (show false=true from hs) Bool.false_ne_true
 | str i=>
  obtain ⟨t,rfl⟩:=rx
  cases y with
  | bY=>cases ry;exact PySem.EqNone.eq_str_none (bj I q (by simp))
  | bl j=>cases ry;exact PySem.EqMixed.eq_str_bool (bj I q (by simp))
  | int j=>obtain ⟨t',rfl⟩:=ry;exact PySem.EqMixed.eq_str_int (bj I q (by simp))
  | str j=>obtain ⟨t',rfl⟩:=ry;exact eq_str (bj I q vz)
  | _=>exact absurd (show false=true from hs) Bool.false_ne_true
 | yW i=>
  obtain ⟨t,rfl⟩:=rx
  cases y with
  | yW j=>obtain ⟨t',rfl⟩:=ry;exact PySem.W.eq_bytes (bj I q vA)
  | _=>exact absurd (show false=true from hs) Bool.false_ne_true
 | _=>cases y<;>exact absurd (show false=true from hs) Bool.false_ne_true
theorem EM:gc X (compareOp .NotEq) Xk:=by
 intro pins s σ H x y v u Q I rx ry h
 obtain ⟨hs,q⟩:=h
 cases x with
 | bY=>
  cases rx
  cases y with
  | bY=>cases ry;exact PySem.EqNone.ne_none_none (bj I q (by simp))
  | bl j=>cases ry;exact PySem.EqNone.ne_none_bool (bj I q (by simp))
  | int j=>obtain ⟨t',rfl⟩:=ry;exact PySem.EqNone.ne_none_int (bj I q (by simp))
  | str j=>obtain ⟨t',rfl⟩:=ry;exact PySem.EqNone.ne_none_str (bj I q (by simp))
  | _=>exact absurd (show false=true from hs) Bool.false_ne_true
 | bl i=>
  cases rx
  cases y with
  | bY=>cases ry;exact PySem.EqNone.ne_bool_none (bj I q (by simp))
  | bl j=>cases ry;exact ne_bool (bj I q (congrArg not zB))
  | str j=>obtain ⟨t',rfl⟩:=ry;exact PySem.EqMixed.ne_bool_str (bj I q (by simp))
  | _=>exact absurd (show false=true from hs) Bool.false_ne_true
 | int i=>
  obtain ⟨t,rfl⟩:=rx
  cases y with
  | bY=>cases ry;exact PySem.EqNone.ne_int_none (bj I q (by simp))
  | int j=>obtain ⟨t',rfl⟩:=ry;exact ne_int (bj I q (congrArg not vw))
  | str j=>obtain ⟨t',rfl⟩:=ry;exact PySem.EqMixed.ne_int_str (bj I q (by simp))
  | _=>exact absurd (show false=true from hs) Bool.false_ne_true
 | str i=>
  obtain ⟨t,rfl⟩:=rx
  cases y with
  | bY=>cases ry;exact PySem.EqNone.ne_str_none (bj I q (by simp))
  | bl j=>cases ry;exact PySem.EqMixed.ne_str_bool (bj I q (by simp))
  | int j=>obtain ⟨t',rfl⟩:=ry;exact PySem.EqMixed.ne_str_int (bj I q (by simp))
  | str j=>obtain ⟨t',rfl⟩:=ry;exact ne_str (bj I q (congrArg not vz))
  | _=>exact absurd (show false=true from hs) Bool.false_ne_true
 | yW i=>
  obtain ⟨t,rfl⟩:=rx
  cases y with
  | yW j=>obtain ⟨t',rfl⟩:=ry;exact PySem.W.ne_bytes (bj I q (congrArg not vA))
  | _=>exact absurd (show false=true from hs) Bool.false_ne_true
 | _=>cases y<;>exact absurd (show false=true from hs) Bool.false_ne_true
theorem kQ:gc X (compareOp .Lt) (w9 fun i j=> .bl (decide (i<j))):=Cz fun _ _ _ _ _ _ _ q=>lt_int q
theorem eM:gc X (compareOp .LtE) (w9 fun i j=> .bl (decide (i<=j))):=Cz fun _ _ _ _ _ _ _ q=>le_int q
theorem lV:gc X (compareOp .Gt) (w9 fun i j=> .bl (decide (j<i))):=Cz fun _ _ _ _ _ _ _ q=>gt_int q
theorem Kp:gc X (compareOp .GtE) (w9 fun i j=> .bl (decide (j<=i))):=Cz fun _ _ _ _ _ _ _ q=>ge_int q
theorem w_:gc X (compareOp .In) (fun x y H Q=> ∃i j,x= .str i/\y= .str j/\Q (.bl (!(Builtin.Str.occurrences j i 0 j.length 1).isEmpty)) H):=by
 intro pins s σ H x y v u Q I rx ry h
 obtain ⟨i,j,rfl,rfl,q⟩:=h
 obtain ⟨t,rfl⟩:=rx
 obtain ⟨t',rfl⟩:=ry
 exact in_str (bj I q rfl)
theorem Gd:gc X (compareOp .Is) (fun x y H Q=>y= .bY/\Q (.bl (decide (x= .bY))) H):=by
 intro pins s σ H x y v u Q I rx ry h
 obtain ⟨rfl,q⟩:=h
 cases ry
 refine is_none_gen (bj I q ?_)
 cases x<;>first
  |(cases rx;rfl)
  |(obtain ⟨t,rfl⟩:=rx;rfl)
theorem CA:gc X (compareOp .IsNot) (fun x y H Q=>y= .bY/\Q (.bl (!decide (x= .bY))) H):=by
 intro pins s σ H x y v u Q I rx ry h
 obtain ⟨rfl,q⟩:=h
 cases ry
 refine isnot_none_gen (bj I q ?_)
 cases x<;>first
  |(cases rx;rfl)
  |(obtain ⟨t,rfl⟩:=rx;rfl)
theorem bq (b:Expr) {op:CmpOp} (h:op≠ .In:=by decide) (h2:op≠ .NotIn:=by decide):behindInMarks op b=false:=by
 have e1:(op==CmpOp.In)=false:=by cases op<;>first | rfl | exact absurd rfl h
 have e2:(op==CmpOp.NotIn)=false:=by cases op<;>first | rfl | exact absurd rfl h2
 cases b<;>simp[behindInMarks,e1,e2]
theorem vB {op:CmpOp} {r:R2} (ho:gc X (compareOp op) r) (ha:PE X a ta) (hb:PE X b tb) (hm:behindInMarks op b=false):PE X (.Compare a [op] [b] pos) (Jw r ta tb):=by
 intro pins s σ H Q I h
 exact wpAny_Compare1 (Ga ha hb I h fun v u s2 x y H2 I2 rx ry q=>ho pins s2 σ H2 x y v u Q I2 rx ry q) hm
def EN (t:TE):TT:=fun σ H Q=>t σ H fun x H'=> ∃k,x= .bl k/\Q k H'
theorem aS {op:CmpOp} {r:R2} (ho:gc X (compareOp op) r) (ha:PE X a ta) (hb:PE X b tb) (hm:behindInMarks op b=false):PT X (.Compare a [op] [b] pos) (EN (Jw r ta tb)):=by
 intro pins s σ H Q I h
 refine wpAny_isTrue_Compare1 (bQ (ha pins s σ H _ I h) fun v s1 ⟨x,H1,I1,r1,q1⟩=>bQ (hb pins s1 σ H1 _ I1 q1) fun u s2 ⟨y,H2,I2,r2,q2⟩=>
  bQ (ho pins s2 σ H2 x y v u _ I2 r1 r2 q2) fun c s3 ⟨z,H3,I3,r3,k,e,q3⟩=>?_) hm
 subst e
 cases r3
 exact wpAny_truthy_bool ⟨H3,I3,q3⟩
def t_ (r r':R2) (ta tb tc:TE):TE:=fun σ H Q=>ta σ H fun x H1=>tb σ H1 fun y H2=>r x y H2 fun z H3=> ∃k,z= .bl k/\
 (if k=true then tc σ H3 fun w' H4=>r' y w' H4 Q else Q (.bl false) H3)
theorem zC {op Ge:CmpOp} {r r':R2} (ho:gc X (compareOp op) r) (gf:gc X (compareOp Ge) r') (ha:PE X a ta) (hb:PE X b tb) (hc:PE X c tc)
  (hm:lastMarks [op,Ge] [b,c]=false:=by with_unfolding_all rfl):PE X (.Compare a [op,Ge] [b,c] pos) (t_ r r' ta tb tc):=by
 intro pins s σ H Q I h
 refine Compare_chain (bQ (ha pins s σ H _ I h) fun v s1 ⟨x,H1,I1,r1,q1⟩=>chain_link (bQ (hb pins s1 σ H1 _ I1 q1) fun u s2 ⟨y,H2,I2,r2,q2⟩=>
  bQ (ho pins s2 σ H2 x y v u _ I2 r1 r2 q2) fun d s3 ⟨z,H3,I3,r3,k,e,q3⟩=>?_)) hm
 subst e
 cases r3
 refine wpAny_truthy_bool ?_
 cases k with
 | false=>exact ite_ff ⟨.bl false,H3,I3,rfl,q3⟩
 | true=>exact ite_tt (chain_last (bQ (hc pins s3 σ H3 _ I3 q3) fun w' s4 ⟨z',H4,I4,r4,q4⟩=>gf pins s4 σ H4 y z' u w' Q I4 r2 r4 q4))
theorem cY {op Ge:CmpOp} {r r':R2} (ho:gc X (compareOp op) r) (gf:gc X (compareOp Ge) r') (ha:PE X a ta) (hb:PE X b tb) (hc:PE X c tc)
  (hm:lastMarks [op,Ge] [b,c]=false:=by with_unfolding_all rfl):PT X (.Compare a [op,Ge] [b,c] pos) (EN (t_ r r' ta tb tc)):=by
 intro pins s σ H Q I h
 refine isTrue_chain (bQ (ha pins s σ H _ I h) fun v s1 ⟨x,H1,I1,r1,q1⟩=>test_link (bQ (hb pins s1 σ H1 _ I1 q1) fun u s2 ⟨y,H2,I2,r2,q2⟩=>
  bQ (ho pins s2 σ H2 x y v u _ I2 r1 r2 q2) fun d s3 ⟨z,H3,I3,r3,k,e,q3⟩=>?_)) hm
 subst e
 cases r3
 refine wpAny_truthy_bool ?_
 cases k with
 | false=>
  obtain ⟨k',e',q'⟩:=q3
  cases e'
  exact ite_ff ⟨H3,I3,q'⟩
 | true=>
  refine ite_tt (test_last (bQ (hc pins s3 σ H3 _ I3 q3) fun w' s4 ⟨z',H4,I4,r4,q4⟩=>bQ (gf pins s4 σ H4 y z' u w' _ I4 r2 r4 q4) fun d' s5 ⟨z2,H5,I5,r5,k2,e2,q5⟩=>?_))
  subst e2
  cases r5
  exact wpAny_truthy_bool ⟨H5,I5,q5⟩
theorem jq:(sizeLine:Nat)<2 ^ 63:=by rw[sizeLine_eq];decide
theorem ua:gc X (binaryOp .Add) (fun x y H Q=> ∃i j,x= .str i/\y= .str j/\i.length+j.length<=sizeLine/\Q (.str (i++j)) H):=by
 intro pins s σ H x y v u Q I rx ry h
 obtain ⟨i,j,rfl,rfl,hz,q⟩:=h
 obtain ⟨t,rfl⟩:=rx
 obtain ⟨t',rfl⟩:=ry
 exact add_str (fun t' tk=>⟨.str (i++j),H,I.tok _,⟨_,rfl⟩,q⟩) hz
theorem vals1 {x:V} {us:List Value} (r:Vals [x] us): ∃u,us=[u]/\RelV x u:=by
 cases r with
 | cons r1 r2=>cases r2;exact ⟨_,rfl,r1⟩
theorem vals2 {x y:V} {us:List Value} (r:Vals [x,y] us): ∃u w',us=[u,w']/\RelV x u/\RelV y w':=by
 cases r with
 | cons r1 r2=>
  cases r2 with
  | cons r3 r4=>cases r4;exact ⟨_,_,rfl,r1,r3⟩
theorem nO (hc:X.calm=true):cS X (.builtin "max") (fun xs H Q=> ∃i j,xs=[.int i, .int j]/\Q (.int (if j>i then j else i)) H):=by
 intro pins s σ H xs us Q I r h
 obtain ⟨i,j,rfl,q⟩:=h
 obtain ⟨u,w',rfl,⟨t,rfl⟩,⟨t',rfl⟩⟩:=vals2 r
 refine max_two_ints (I.ok.hd hc) fun h' tk k=>⟨_,H,I.kept k,?_,q⟩
 by_cases hj:j>i
 ·rw[if_pos hj,if_pos hj];exact ⟨_,rfl⟩
 ·rw[if_neg hj,if_neg hj];exact ⟨_,rfl⟩
theorem nP (hc:X.calm=true):cS X (.builtin "min") (fun xs H Q=> ∃i j,xs=[.int i, .int j]/\Q (.int (if j<i then j else i)) H):=by
 intro pins s σ H xs us Q I r h
 obtain ⟨i,j,rfl,q⟩:=h
 obtain ⟨u,w',rfl,⟨t,rfl⟩,⟨t',rfl⟩⟩:=vals2 r
 refine min_two_ints (I.ok.hd hc) fun h' tk k=>⟨_,H,I.kept k,?_,q⟩
 by_cases hj:j<i
 ·rw[if_pos hj,if_pos hj];exact ⟨_,rfl⟩
 ·rw[if_neg hj,if_neg hj];exact ⟨_,rfl⟩
theorem nQ:cS X (.type "int") (fun xs H Q=>(∃i,xs=[.int i]/\Q (.int i) H)\/ ∃k,xs=[.bl k]/\Q (.int (if k then 1 else 0)) H):=by
 intro pins s σ H xs us Q I r h
 rcases h with ⟨i,rfl,q⟩ | ⟨k,rfl,q⟩
 ·obtain ⟨u,rfl,t,rfl⟩:=vals1 r
  exact call_int_int ⟨.int i,H,I,⟨_,rfl⟩,q⟩
 ·obtain ⟨u,rfl,r1⟩:=vals1 r
  cases r1
  exact call_int_bool ⟨.int (if k then 1 else 0),H,I.tok _,⟨_,rfl⟩,q⟩
end
end L2
namespace L2
open PySem PySem.Spec PyProof.Rows
structure Gf (h:Heap) (x dx C:Addr) (mA:Str->Option Value):Prop where
 obj:h.get? x=some (PySem.W.instObj C dx)
 ns:h.Ns1 dx mA
 ne:dx≠x
theorem nR {h:Heap} {dx:Addr} {mA:Str->Option Value} (n:h.Ns1 dx mA): ∃od,h.get? dx=some od/\ ∀name,PySem.W.lookIn name od=some (mA name):=by
 obtain ⟨o,es,ep,ho,hd,hk,_,hm⟩:=n
 refine ⟨o,ho,fun name=>?_⟩
 have e:=hm name
 unfold nsFind findBy at e
 rw[<-Array.find?_toList]at e
 unfold PySem.W.lookIn
 rw[hd]
 dsimp only
 split
 ·rename_i y q
  rw[q]at e
  exact congrArg some e
 ·rename_i q
  rw[q]at e
  have a:es.toList.any (·.refKey)=false:=by
   rw[List.any_eq_false]
   intro y hy
   obtain ⟨z,t,PM⟩:=hk y (Array.mem_toList_iff.mp hy)
   simp[DictEntry.refKey,PM]
  have a': ¬es.toList.any (·.refKey)=true:=by rw[a];exact Bool.false_ne_true
  rw[if_neg a']
  exact congrArg some e
theorem Gf.look {h:Heap} {x dx C:Addr} {mA:Str->Option Value} (I:Gf h x dx C mA): ∃od,PySem.W.InstAt h x (PySem.W.instObj C dx) C (some od)/\ ∀name,PySem.W.lookIn name od=some (mA name):=
 let ⟨od,ho,hl⟩:=nR I.ns
 ⟨od,⟨I.obj,rfl,rfl,ho⟩,hl⟩
section
variable {prog:Program} {w:World} {A:Around} {E:Value->Shared->Prop} {s:Shared} {K:PySem.W.Frag} {x dx C f:Addr} {mA:Str->Option Value} {name:Str} {v:Value}
end
noncomputable def lB (f:Str) (v:V):List (Str×V)->List (Str×V)
 | []=>[(f,v)]
 |(g,x)::r=>if g=f then (g,v)::r else (g,x)::lB f v r
theorem kR (f g:Str) (v:V): ∀fs:List (Str×V),(lB f v fs).lookup g=if g=f then some v else fs.lookup g
 | []=>by
  show List.lookup g [(f,v)]=_
  by_cases h:g=f
  ·have hb:(g==f)=true:=beq_iff_eq.mpr h
   simp only[List.lookup,hb,if_pos h]
  ·have hb:(g==f)=false:=beq_eq_false_iff_ne.mpr h
   simp only[List.lookup,hb,if_neg h]
 |(k,x)::r=>by
  have ih:=kR f g v r
  rw[show lB f v ((k,x)::r)=(if k=f then (k,v)::r else (k,x)::lB f v r) from rfl]
  by_cases hk:k=f
  ·rw[if_pos hk]
   by_cases h:g=k
   ·have hb:(g==k)=true:=beq_iff_eq.mpr h
    simp only[List.lookup,hb,if_pos (h.trans hk)]
   ·have hb:(g==k)=false:=beq_eq_false_iff_ne.mpr h
    simp only[List.lookup,hb,if_neg (fun e:g=f=>h (e.trans hk.symm))]
  ·rw[if_neg hk]
   by_cases h:g=k
   ·have hb:(g==k)=true:=beq_iff_eq.mpr h
    simp only[List.lookup,hb,if_neg (fun e:g=f=>hk (h.symm.trans e))]
   ·have hb:(g==k)=false:=beq_eq_false_iff_ne.mpr h
    simp only[List.lookup,hb]
    exact ih
theorem ko (f:Str) (v:V): ∀fs:List (Str×V),f∈(lB f v fs).map (·.1)/\ ∀g,g∈fs.map (·.1)->g∈(lB f v fs).map (·.1)
 | []=>⟨by simp[lB],fun g h=>by simp at h⟩
 |(k,x)::r=>by
  obtain ⟨i1,i2⟩:=ko f v r
  rw[show lB f v ((k,x)::r)=(if k=f then (k,v)::r else (k,x)::lB f v r) from rfl]
  by_cases hk:k=f
  ·rw[if_pos hk]
   subst hk
   exact ⟨by simp,fun g h=>by simpa using h⟩
  ·rw[if_neg hk]
   refine ⟨?_,fun g h=>?_⟩
   ·rw[List.map_cons]
    exact List.mem_cons_of_mem _ i1
   ·rw[List.map_cons]at h ⊢
    rcases List.mem_cons.mp h with e | e
    ·exact List.mem_cons.mpr (.inl e)
    ·exact List.mem_cons_of_mem _ (i2 g e)
theorem i7.some_of {v:V} {o:Option Value} (r:i7 (some v) o): ∃u,o=some u/\RelV v u:=by
 cases o with
 | none=>exact (show False from r).elim
 | some u=>exact ⟨u,rfl,r⟩
theorem xa {v:V} {u:Value} (r:RelV v u):PySem.W.handedIn u=true:=by
 cases v with
 | bY=>cases (show u=Value.none from r);rfl
 | bl b=>cases (show u=Value.bool b from r);rfl
 | int i=>obtain ⟨t,e⟩:=(show ∃t,u=Value.int i t from r);cases e;rfl
 | str x=>obtain ⟨t,e⟩:=(show ∃t,u=Value.str x t from r);cases e;rfl
 | yW b=>obtain ⟨t,e⟩:=(show ∃t,u=Value.bytes b t from r);cases e;rfl
 | zv b=>obtain ⟨t,e⟩:=(show ∃t,u=Value.float b t from r);cases e;rfl
 | ref a=>cases (show u=Value.ref a from r);rfl
 | ty n=>cases (show u=Value.type n from r);rfl
section
variable {P:Program} {w:World} {H H':Hp} {h h':Heap} {a C dx:Addr} {fs Xe:List (Str×V)}
theorem CB (aX:gD P w H h) (e:H a=some (.ins C dx fs)): ∃mA,Gf h a dx C mA/\(∀f,i7 (fs.lookup f) (mA f))/\PySem.Within mA (fs.map (·.1))/\fs.length<=1000/\H dx=some (.own a):=by
 obtain ⟨d,z,ne,ob,mA,n,r,q⟩:=(show bG P w H h a (.ins C dx fs) from aX a _ e)
 exact ⟨mA,⟨ob,n,ne⟩,r,q,z,d⟩
end
structure PN (K:PySem.W.Frag) (C:Addr):Prop where
 pg:PySem.W.plainGet K C Str.empty=true
 hd:PySem.W.hasDictIn K C=true
 po:PySem.W.plainOver K C=true
 sa:PySem.W.findIn K (.ref C) "__setattr__"=some (some (.builtin "object.__setattr__"))
theorem PN.get {K:PySem.W.Frag} {C:Addr} (c:PN K C) (f:Str):PySem.W.plainGet K C f=true:=c.pg
def ub (K:PySem.W.Frag) (C:Addr) (f:Str):Prop:=PySem.W.findIn K (.ref C) f=some none
structure Con (K:PySem.W.Frag) (C:Addr) (f:Str) (v:V) (u:Value):Prop where
 at_:PySem.W.findIn K (.ref C) f=some (some u)
 rel:RelV v u
 get:PySem.W.specialIn K u "__get__"=some none
 cp:PySem.W.copiedNames.contains f=false
structure Meth (K:PySem.W.Frag) (C:Addr) (m:Str) (f:Addr):Prop where
 at_:PySem.W.findIn K (.ref C) m=some (some (.ref f))
 fn:PySem.W.isFn K (.ref f)=true
 kp:PySem.W.keepIn K (.ref f)=true
section
variable {X:Cx} {pins:List (Addr×Obj)} {σ:St} {H:Hp} {s:Shared} {a C dx:Addr} {fs:List (Str×V)} {f:Str} {v:V} {A:Around} {E:Value->Shared->Prop}
theorem CC {prog:Program} {w:World} {env:Env} {e:Expr} {f:Str} {pos:Pos} {s:Shared} {Q:Value->Shared->Prop} (hb:attributeBase e f env (eval e env)=eval e env)
  (h:wpAny (model prog w) A (eval e env) (fun o s₁=>wpAny (model prog w) A (getAttr o f true) Q E s₁) E s):wpAny (model prog w) A (eval (.Attribute e f pos) env) Q E s:=
 Attribute_any_ h (by rw[arm_eval_Attribute,hb])
end
section
variable {X:Cx} {o e value:Expr} {f:Str} {pos pos' Kq:Pos} {ta tv:TE}
end
section
variable {X:Cx} {pins:List (Addr×Obj)} {σ:St} {H:Hp} {s:Shared} {A:Around} {E:Value->Shared->Prop} {Q:Value->Shared->Prop} {c:Value} {b:Bool}
inductive lC (K:PySem.W.Frag) (H:Hp):V->Value->Prop where
 | bY:lC K H .bY (.type "NoneType")
 | bl (x:Bool):lC K H (.bl x) (.type "bool")
 | int (i:Int):lC K H (.int i) (.type "int")
 | str (x:Str):lC K H (.str x) (.type "str")
 | zv (x:UInt64):lC K H (.zv x) (.type "float")
 | lst {a:Addr} {xs:List V} (e:H a=some (.lst xs)):lC K H (.ref a) (.type "list")
 | tT {a:Addr} {o:Obj} {xs:List V} (e:H a=some (.tT o (.lst xs))):lC K H (.ref a) (.type "list")
 | tup {a:Addr} {xs:List V} (e:H a=some (.tup xs)):lC K H (.ref a) (.type "tuple")
 | dK {a:Addr} {kvs:List (Key×V)} (e:H a=some (.dK kvs)):lC K H (.ref a) (.type "dict")
 | dT {a:Addr} {kvs:List (List Key×V)} (e:H a=some (.dT kvs)):lC K H (.ref a) (.type "dict")
 | ins {a C dx:Addr} {fs:List (Str×V)} (e:H a=some (.ins C dx fs)) (cl:PN K C) (ha:PySem.W.findIn K (.ref C) "__class__"=some (some (.builtin "object.__class__")))
   (hn:PySem.W.specialIn K (.builtin "object.__class__") "__get__"=some (some (.builtin "getset_descriptor.__get__"))) (EO:PySem.W.takesIn K (.builtin "object.__class__")=some true)
   (hm:PySem.W.mroIn K C (.type "object")=some true):lC K H (.ref a) (.ref C)
theorem kq {x:V} {u t:Value} (I:Inv X pins σ H s) (rx:RelV x u) (ty:lC X.K H x t) (e:PySem.W.kitOne X.K t c=some b) (h: ∀tk,Q (.bool b) { s with toks:=tk }):
  wpAny (model X.prog X.w) A (call (.builtin "isinstance") [u,c]) Q E s:=by
 cases ty with
 | bY=>cases (show u=Value.none from rx);exact PySem.W.kia_one PySem.W.kitx_none I.jn True.intro e (fun z=>nomatch z) h
 | bl y=>cases (show u=Value.bool y from rx);exact PySem.W.kia_one PySem.W.kitx_bool I.jn True.intro e (fun z=>nomatch z) h
 | int i=>obtain ⟨t,q⟩:=(show ∃t,u=Value.int i t from rx);cases q;exact PySem.W.kia_one PySem.W.kitx_int I.jn True.intro e (fun z=>nomatch z) h
 | str y=>obtain ⟨t,q⟩:=(show ∃t,u=Value.str y t from rx);cases q;exact PySem.W.kia_one PySem.W.kitx_str I.jn True.intro e (fun z=>nomatch z) h
 | zv y=>obtain ⟨t,q⟩:=(show ∃t,u=Value.float y t from rx);cases q;exact PySem.W.kia_one PySem.W.kitx_float I.jn True.intro e (fun z=>nomatch z) h
 | @lst a xs ea=>
  cases (show u=Value.ref a from rx)
  obtain ⟨_,_,n,_,h1⟩:=(show bG X.prog X.w H s.heap a (.lst xs) from I.aX a _ ea)
  exact PySem.W.kia_one PySem.W.kitx_list I.jn ⟨_,h1,rfl⟩ e (fun z=>nomatch z) h
 | @tT a ob xs ea=>
  cases (show u=Value.ref a from rx)
  obtain ⟨_,_,_,n,_,h1⟩:=(show bG X.prog X.w H s.heap a (.tT ob (.lst xs)) from I.aX a _ ea)
  exact PySem.W.kia_one PySem.W.kitx_list I.jn ⟨_,h1,rfl⟩ e (fun z=>nomatch z) h
 | @tup a xs ea=>
  cases (show u=Value.ref a from rx)
  obtain ⟨_,_,_,p⟩:=(show bG X.prog X.w H s.heap a (.tup xs) from I.aX a _ ea)
  obtain ⟨o,h1,h2,_⟩:=p
  exact PySem.W.kia_one PySem.W.kitx_tuple I.jn ⟨o,h1,h2⟩ e (fun z=>nomatch z) h
 | @dK a kvs ea=>
  cases (show u=Value.ref a from rx)
  obtain ⟨_,_,vs,_,p⟩:=(show bG X.prog X.w H s.heap a (.dK kvs) from I.aX a _ ea)
  obtain ⟨o,es,ep,h1,h2,_⟩:=p
  exact PySem.W.kia_one PySem.W.kitx_dict I.jn ⟨o,h1,h2.1⟩ e (fun z=>nomatch z) h
 | @dT a kvs ea=>
  cases (show u=Value.ref a from rx)
  obtain ⟨_,_,xs,_,o,es,ep,h1,h2,_⟩:=(show bG X.prog X.w H s.heap a (.dT kvs) from I.aX a _ ea)
  exact PySem.W.kia_one PySem.W.kitx_dict I.jn ⟨o,h1,h2.1⟩ e (fun z=>nomatch z) h
 | @ins a C dx fs ea cl ha hn EO hm=>
  cases (show u=Value.ref a from rx)
  obtain ⟨mA,O,_⟩:=CB I.aX ea
  obtain ⟨od,J,_⟩:=O.look
  exact PySem.W.kia_one (PySem.W.kitx_own (cl.get _) cl.hd ha hn EO hm) I.jn J e (fun z=>nomatch z) h
end
end L2
namespace L2
open PySem PySem.Spec PyProof.Rows
structure dA (k:Nat) (A:Around):Prop where
 hd:A.handled=none
 dp:A.depth+3*k+5<recursionLimit
 un:A.units+16*k+200<cLine
 gd:A.guards=some []
theorem dA.mono {j k:Nat} {A:Around} (r:dA k A) (h:j<=k):dA j A:=⟨r.hd,by have:=r.dp;omega,by have:=r.un;omega,r.gd⟩
theorem dA.deeper {k:Nat} {A:Around} (r:dA (k+1) A) (env:Env):dA k (A.deeper env):=
 ⟨r.hd,by have:=r.dp;show A.depth+1+3*k+5<_;omega,by have:=r.un;show A.units+3+16*k+200<_;omega,r.gd⟩
theorem uc {A:Around} {C:Addr} {us:List Value} {kw:List (Str×Value)}:(A.under (.builtin "type.__call__" ⟨.ref C::us,kw⟩)).depth=A.depth+1:=by
 first | rfl | simp[Around.under,Code.weight,Code.isCreation,Code.isGuard,Code.isCaller,Code.frames,Code.isFrame,guardIds]
theorem ud {A:Around} {C:Addr} {us:List Value} {kw:List (Str×Value)}:(A.under (.builtin "type.__call__" ⟨.ref C::us,kw⟩)).units=A.units+1:=by
 first | rfl | simp[Around.under,Code.cUnits,Code.frames,Code.isFrame]
theorem dA.make {k:Nat} {A:Around} (r:dA (k+1) A) (C:Addr) (us:List Value) (kw:List (Str×Value)):dA k (A.under (.builtin "type.__call__" ⟨.ref C::us,kw⟩)):=
 ⟨r.hd,by have:=r.dp;rw[uc];omega,by have:=r.un;rw[ud];omega,by first | exact r.gd | (simpa [Around.under,Code.guards,Code.isGuard,pushGuards,guardIds]using r.gd)⟩
theorem dA.depth {k:Nat} {A:Around} (r:dA k A):A.depth<recursionLimit:=by have:=r.dp;omega
theorem dA.units {k:Nat} {A:Around} (r:dA k A):A.units+64<cLine:=by have:=r.un;omega
def zD:TA:=fun _ H Q=>Q [] H
def kT (ta:TE) (tr:TA):TA:=fun σ H Q=>ta σ H fun x H1=>tr σ H1 fun xs H2=>Q (x::xs) H2
section
variable {X:Cx} {e:Expr} {es:List Expr} {te:TE} {t:TA} {pos:Pos}
theorem af:PA X [] zD:=fun _ _ _ _ H Q I h=>Calls.spliced_nil ⟨[],H,I, .nil,h⟩
theorem aa (ha:PE X e te) (hr:PA X es t) (hs:starEach (e::es) X.env=(false,eval e X.env)::starEach es X.env:=by rfl):PA X (e::es) (kT te t):=by
 intro pos pins s σ H Q I h
 rw[hs]
 show wpAny _ _ (spliced ((false,eval e X.env)::backTo pos (starEach es X.env))) _ _ s
 refine Calls.spliced_cons (bQ (ha pins s σ H _ I h) fun u s1 ⟨x,H1,I1,r1,q1⟩=>?_)
 exact bQ (hr pos pins s1 σ H1 _ I1 q1) fun us s2 ⟨xs,H2,I2,r2,q2⟩=>⟨x::xs,H2,I2, .cons r1 r2,q2⟩
def PQ (t:TA):TE:=fun σ H Q=>t σ H fun xs H1=>xs.length<=sizeLine/\ ∀p,H1 p=none->Q (.ref p) (upd H1 p (.tup xs))
def Kr (t:TA):TE:=fun σ H Q=>t σ H fun xs H1=>xs.length<=sizeLine/\ ∀p,H1 p=none->Q (.ref p) (upd H1 p (.lst xs))
theorem bA {x1} (h:PA X es t):PE X (.Tuple es x1 pos) (PQ t):=by
 intro pins s σ H Q I hq
 refine wpAny_Tuple_spliced (bQ (h pos pins s σ H _ I hq) fun us s1 ⟨xs,H1,I1,r,z,q⟩=>⟨by rw[<-r.length];exact z,?_⟩)
 have hf:H1 s1.heap.objs.size=none:=I1.aX.fresh (Nat.le_refl _)
 refine ⟨.ref s1.heap.objs.size,upd H1 s1.heap.objs.size (.tup xs),I1.laid (t':=s1.toks) (fun b u e=>Heap.get?_push_of_some _ e) (Nat.le_refl _) ?_,rfl,q _ hf⟩
 exact ⟨z,us,r,⟨_,Heap.get?_push_size _ rfl,rfl,_,rfl⟩⟩
theorem bt (h:PA X es t):PE X (.List es pos) (Kr t):=by
 intro pins s σ H Q I hq
 refine wpAny_List_spliced (bQ (h pos pins s σ H _ I hq) fun us s1 ⟨xs,H1,I1,r,z,q⟩=>⟨by rw[<-r.length];exact z,?_⟩)
 have hf:H1 s1.heap.objs.size=none:=I1.aX.fresh (Nat.le_refl _)
 refine ⟨.ref s1.heap.objs.size,upd H1 s1.heap.objs.size (.lst xs),I1.laid (t':=s1.toks) (fun b u e=>Heap.get?_push_of_some _ e) (Nat.le_refl _) ?_,rfl,q _ hf⟩
 exact ⟨z,us,0,r,Heap.get?_push_size _ rfl⟩
end
abbrev Sp:=List V->Hp->VK->XK->Prop
abbrev vC:=List Env->Hp->Shared->XK->Value->Shared->Prop
structure qO (P:Program) (w:World) (K:PySem.W.Frag) (mg:Str->Option Value) (base:Heap) (A:Around) (outer:List Env) (s:Shared) (H:Hp):Prop where
 frames:A.frames=some outer
 mod:Mod K mg base
 bs: ∀b o,base.get? b=some o->s.heap.get? b=some o/\H b=none
 yY:base.objs.size<=s.heap.objs.size
 jm:s.heap.FunFrames base outer
 B6: ∀b∈jE outer,H b=none
 aX:gD P w H s.heap
 bare:AllBare s.gens
def CE (outer:List Env) (P:Program) (w:World) (H:Hp) (s:Shared) (Q:VK) (u:Value) (s':Shared):Prop:=
 ∃v H',s'.os=s.os/\AllBare s'.gens/\Un (jE outer) [] H H' s.heap s'.heap/\gD P w H' s'.heap/\RelV v u/\Q v H'
def CR (CX:vC) (outer:List Env) (P:Program) (w:World) (H:Hp) (s:Shared) (Q:VK) (E:XK) (r:Result) (s':Shared):Prop:=
 match r with
 | .ok (.ret u)=>CE outer P w H s Q u s'
 | .ok _=>False
 | .error e=>CX outer H s E e s'
structure cD (P:Program) (w:World) (K:PySem.W.Frag) (mg:Str->Option Value) (base:Heap) (CX:vC) (k:Nat) (f:Addr) (fd:FuncData) (ps:List Str) (sp:Sp):Prop where
 len: ∀vs H Q E,sp vs H Q E->vs.length=ps.length
 run: ∀(A:Around) (outer:List Env) (s:Shared) (H:Hp) (args:Args) (us:List Value) (vs:List V) (Q:VK) (E:XK),dA k A->qO P w K mg base A outer s H->BindsTo s fd args (ps.zip us)->Vals vs us->sp vs H Q E->
  codeAny (model P w) A (.call (.ref f) args) (CR CX outer P w H s Q E) s
theorem qO.make {P:Program} {w:World} {K:PySem.W.Frag} {mg:Str->Option Value} {base:Heap} {A:Around} {outer:List Env} {s:Shared} {H:Hp} (e:qO P w K mg base A outer s H) (C:Addr) (us:List Value) (kw:List (Str×Value)):
  qO P w K mg base (A.under (.builtin "type.__call__" ⟨.ref C::us,kw⟩)) outer s H:=⟨by first | exact e.frames | (simpa [Around.under,Code.envs,Code.isFrame,pushEnvs]using e.frames),e.mod,e.bs,e.yY,e.jm,e.B6,e.aX,e.bare⟩
section
variable {X:Cx} {pins:List (Addr×Obj)} {σ:St} {H:Hp} {s s':Shared}
theorem Inv.Gg (I:Inv X pins σ H s):qO X.prog X.w X.K X.mg X.base X.A X.stack s H:=
 ⟨I.ok.frames,I.ok.mod,I.bs,Nat.le_trans I.ok.yY I.sz,I.stack,I.lI,I.aX,I.bare⟩
theorem Inv.after {Q:VK} {u:Value} (I:Inv X pins σ H s) (h:CE X.stack X.prog X.w H s Q u s'):EP X pins σ Q u s':=by
 obtain ⟨v,H',os,bare,un,aX,r,q⟩:=h
 obtain ⟨hh,g,d,t,os'⟩:=s'
 obtain rfl:os'=s.os:=os
 exact ⟨v,H',I.call (h':=hh) (g':=g) (d':=d) (t':=t) (ch:=[]) un aX bare (fun b z=>absurd z (by simp)),r,q⟩
end
def Ks (sp:Sp) (ue:List V) (E:XK) (t:TA):TE:=fun σ H Q=>t σ H fun vs H1=>sp (vs++ue) H1 Q E
def Binds (K:PySem.W.Frag) (fd:FuncData) (ps:List Str) (ds:List Value):Prop:=
 ∀(s:Shared) (us:List Value),K.In s.heap->(us++ds).length=ps.length->BindsTo s fd ⟨us,[]⟩ (ps.zip (us++ds))
theorem Binds.all {K:PySem.W.Frag} {fd:FuncData} {ps:List Str} (h: ∀us:List Value,us.length=ps.length->bindArgs fd ⟨us,[]⟩=pure (ps.zip us)):Binds K fd ps []:=fun s us _ hl=>by
 rw[List.append_nil]at hl ⊢
 exact .of_eq (h us hl)
def Passes (CX:vC) (X:Cx) (E:XK):Prop:= ∀(pins:List (Addr×Obj)) (σ:St) (H:Hp) (s:Shared) (e:Value) (s':Shared),Inv X pins σ H s->CX X.stack H s E e s'->X.xe e s'
section
variable {X:Cx} {CX:vC} {k:Nat} {f C:Addr} {fd:FuncData} {ps:List Str} {sp:Sp} {ue:List V} {ds:List Value} {E:XK} {x m:Str} {p pos apos:Pos} {e o:Expr} {es:List Expr} {ta:TE} {t:TA}
theorem Gh {pins:List (Addr×Obj)} {σ:St} {H:Hp} {s:Shared} {Q:VK} {us:List Value} {vs:List V} (F:cD X.prog X.w X.K X.mg X.base CX k f fd ps sp) (hr:dA k X.A) (hb:Binds X.K fd ps ds) (hd:Vals ue ds) (hx:Passes CX X E)
  (I:Inv X pins σ H s) (r:Vals vs us) (h:sp (vs++ue) H Q E):wpAny (model X.prog X.w) X.A (call (.ref f) us) (EP X pins σ Q) X.xe s:=by
 have r2:Vals (vs++ue) (us++ds):=r.append hd
 have hl:(us++ds).length=ps.length:=by rw[<-r2.length];exact F.len _ _ _ _ h
 refine wpAny_call (codeAny_mono (F.run X.A X.stack s H ⟨us,[]⟩ (us++ds) (vs++ue) Q E hr I.Gg (hb s us I.jn hl) r2 h) fun r s' hq=>?_)
 cases r with
 | error e=>exact hx pins σ H s e s' I hq
 | ok fl=>
  cases fl with
  | ret u=>exact I.after hq
  | next=>exact False.elim hq
  | brk=>exact False.elim hq
  | cont=>exact False.elim hq
theorem ay (F:cD X.prog X.w X.K X.mg X.base CX k f fd ps sp) (hr:dA k X.A) (hg:Gl X x) (hm:X.mg x=some (.ref f)) (hk:PySem.W.keepIn X.K (.ref f)=true) (hb:Binds X.K fd ps ds) (hd:Vals ue ds) (hx:Passes CX X E)
  (ha:PA X (e::es) t) (nu:(x==("__debug__":Str))=false:=by decide) (he:starEach (e::es) X.env=(false,eval e X.env)::starEach es X.env:=by rfl) (gB:(backTo pos (starEach es X.env)).any (·.1)=false:=by rfl):
  PE X (.Call (.Name x p) (e::es) [] pos) (Ks sp ue E t):=by
 intro pins s σ H Q I h
 refine wpAny_Call_Name_kw (iI I hg hm ?_ nu)
 refine PySem.W.callWith_K (h₀:=X.base) I.ok.mod.Ka hk (bQ (ha pos pins s σ H _ I h) fun us s1 ⟨vs,H1,I1,r,q⟩=>⟨I1.jn,?_⟩) he gB
 exact Gh F hr hb hd hx I1 r q
structure Mk (K:PySem.W.Frag) (C f:Addr):Prop where
 makes:PySem.W.makesIn K C=true
 init:PySem.W.findIn K (.ref C) "__init__"=some (some (.ref f))
 fn:PySem.W.isFn K (.ref f)=true
 kp:PySem.W.keepIn K (.ref C)=true
end
section
variable {X:Cx} {CX:vC} {k:Nat} {f C:Addr} {fd:FuncData} {ps ks:List Str} {sp:Sp} {E:XK} {x m:Str} {p pos apos Xl:Pos} {e o:Expr} {es:List Expr} {kws:List Keyword} {te ta:TE} {t tk:TA} {nm:Option Str}
structure PR (K:PySem.W.Frag) (fd:FuncData) (ps ks:List Str) (g:List Value->List Value->List Value) (gV:List V->List V->List V):Prop where
 to: ∀(s:Shared) (us ws:List Value),K.In s.heap->(g us ws).length=ps.length->BindsTo s fd ⟨us,ks.zip ws⟩ (ps.zip (g us ws))
 rel: ∀{vs:List V} {us:List Value} {zs:List V} {ws:List Value},Vals vs us->Vals zs ws->Vals (gV vs zs) (g us ws)
variable {g:List Value->List Value->List Value} {gV:List V->List V->List V}
end
structure bc (N P:List Str) (sc:Scope):Prop where
 kind:sc.kind= .function
 co:sc.isCoroutine=false
 gen:sc.isGenerator=false
 nd:N.Nodup
 pre:N.take P.length=P
 par: ∀x∈P,sc.names.lookup x=some .local\/sc.names.lookup x=some .cell
 Gi: ∀y∈sc.names,y.2≠ .free
theorem nS {kindOf:Str->Option NameKind} {x:Str}: ∀{binds:List (Str×Value)} {m:Str->Option Value},(∀v,(x,v)∉binds)->bindL kindOf binds m x=m x
 | [],_,_=>rfl
 |(n,v)::r,m,h=>by
  unfold bindL
  rw[nS fun w hw=>h w (List.mem_cons_of_mem _ hw)]
  split
  ·have:x≠n:=by rintro rfl;exact h v List.mem_cons_self
   simp[this]
  ·rfl
theorem nU {kindOf:Str->Option NameKind} {x:Str}: ∀{binds:List (Str×Value)} {m:Str->Option Value},(∀v,(x,v)∉binds)->bindC kindOf binds m x=m x
 | [],_,_=>rfl
 |(n,v)::r,m,h=>by
  unfold bindC
  rw[nU fun w hw=>h w (List.mem_cons_of_mem _ hw)]
  split
  ·rfl
  ·have:x≠n:=by rintro rfl;exact h v List.mem_cons_self
   simp[this]
theorem nV {kindOf:Str->Option NameKind} {x:Str} {v:Value}: ∀{P:List Str} {vs:List Value} {i:Nat} {m:Str->Option Value},P.Nodup->P[i]? =some x->vs[i]? =some v->kindOf x=some .local->
  bindL kindOf (P.zip vs) m x=some v
 | [],_,_,_,_,h,_,_=>by simp at h
 | _::_,[],_,_,_,_,h,_=>by simp at h
 | p::P,w::vs,0,m,nd,h1,h2,hk=>by
  simp at h1 h2;subst h1;subst h2
  show bindL kindOf ((p,w)::P.zip vs) m p=_
  unfold bindL
  rw[nS fun v hv=>(List.nodup_cons.mp nd).1 (List.of_mem_zip hv).1,if_pos hk]
  simp
 | p::P,w::vs,i+1,m,nd,h1,h2,hk=>by
  show bindL kindOf ((p,w)::P.zip vs) m x=_
  unfold bindL
  exact nV (i:=i) (List.nodup_cons.mp nd).2 (by simpa using h1) (by simpa using h2) hk
theorem nW {kindOf:Str->Option NameKind} {x:Str} {v:Value}: ∀{P:List Str} {vs:List Value} {i:Nat} {m:Str->Option Value},P.Nodup->P[i]? =some x->vs[i]? =some v->kindOf x≠some .local->
  bindC kindOf (P.zip vs) m x=some v
 | [],_,_,_,_,h,_,_=>by simp at h
 | _::_,[],_,_,_,_,h,_=>by simp at h
 | p::P,w::vs,0,m,nd,h1,h2,hk=>by
  simp at h1 h2;subst h1;subst h2
  show bindC kindOf ((p,w)::P.zip vs) m p=_
  unfold bindC
  rw[nU fun v hv=>(List.nodup_cons.mp nd).1 (List.of_mem_zip hv).1,if_neg hk]
  simp
 | p::P,w::vs,i+1,m,nd,h1,h2,hk=>by
  show bindC kindOf ((p,w)::P.zip vs) m x=_
  unfold bindC
  exact nW (i:=i) (List.nodup_cons.mp nd).2 (by simpa using h1) (by simpa using h2) hk
noncomputable def start (N:List Str) (vs:List V):St:=vs.map some++List.replicate (N.length - vs.length) none
noncomputable def qP (CX:vC) (P:Program) (w:World) (K:PySem.W.Frag) (mg:Str->Option Value) (base:Heap) (N:List Str) (qual:Str) (scope:Scope) (f:Addr) (cd:Value) (A:Around) (outer:List Env) (s:Shared) (H:Hp) (E:XK):Cx where
 prog:=P
 w:=w
 K:=K
 mg:=mg
 base:=base
 A:=A.deeper (envOfC qual scope s.heap.objs.size f cd)
 N:=N
 s₀:=s
 H₀:=H
 env:=envOfC qual scope s.heap.objs.size f cd
 outer:=outer
 stack:=envOfC qual scope s.heap.objs.size f cd::outer
 ex:=[]
 calm:=true
 fn:=fun _=>true
 pn:=[]
 xe:=fun e s'=>wpAny (model P w) (A.deeper (envOfC qual scope s.heap.objs.size f cd)) (leaving (envOfC qual scope s.heap.objs.size f cd) e) (fun _ Kt=>CX outer H s E e Kt) (fun e' Kt=>CX outer H s E e' Kt) s'
theorem qQ {sc:Scope} {n:Nat} {x:Str} (h:sc.names.lookup x=some .cell): ∃c,(cellsFrom n sc.names []).lookup x=some c:=by
 have q:=PySem.W.cellsFrom_some sc.names n [] (.inl h)
 exact Option.isSome_iff_exists.mp q
theorem xf {CX:vC} {P:Program} {w:World} {K:PySem.W.Frag} {mg:Str->Option Value} {base:Heap} {N ps:List Str} {qual:Str} {scope:Scope} {f:Addr} {cd:Value} {A:Around} {outer:List Env} {s s1:Shared} {H:Hp} {E:XK} {us:List Value} {vs:List V}
  (S:bc N ps scope) (hd:A.handled=none) (e0:qO P w K mg base A outer s H) (hl:vs.length=ps.length) (r:Vals vs us)
  (x:InCallC s s.heap.objs.size (bindL (envOfC qual scope s.heap.objs.size f cd).kindOf (ps.zip us) fun _=>none) (cellsFrom (s.heap.objs.size+1) scope.names []) (bindC (envOfC qual scope s.heap.objs.size f cd).kindOf (ps.zip us) fun _=>none) s1):
  Inv (qP CX P w K mg base N qual scope f cd A outer s H E) [] (start N vs) H s1:=by
 have gB:ps.length<=N.length:=by have:=congrArg List.length S.pre;rw[List.length_take]at this;omega
 obtain ⟨h1,tk,rfl,hk⟩:=x.done
 have Ku: ∀b:Addr,b∉(qP CX P w K mg base N qual scope f cd A outer s H E).ex:=fun b z=>absurd (show b∈([]:List Addr) from z) (by simp)
 refine ⟨⟨e0.mod,S.kind,rfl,rfl,Nat.le_refl _,fun y z c h1 h2=>?_,fun y hy=>?_,fun y c _ h=>?_,fun _=>hd,Around.frames_deeper e0.frames, .inr ⟨rfl,rfl⟩,fun b z=>absurd z (Ku b),e0.bs,e0.yY,fun b _ _=>Ku b,fun b z=>absurd z (Ku b),e0.jm,e0.B6⟩,
  rfl,e0.bare,Un.kept hk,⟨_,x.toInCall.ns,fun i y v h1 h2 h3=>?_⟩,fun y c h=>⟨_,x.cell y c h⟩,e0.aX.fresh (Nat.le_refl _),fun y c h=>?_,fun p hp=>absurd (show p∈([]:List (Addr×Obj)) from hp) (by simp),e0.aX.kept hk,?_⟩
 ·exact name_of_addr x.apart (PySem.mem_of_lookup h1) (PySem.mem_of_lookup h2)
 ·have hy:scope.names.lookup y=some .cell\/scope.names.lookup y=some .free:=hy
  rcases hy with hy | hy
  ·exact qQ hy
  ·exact absurd rfl (S.Gi _ (PySem.mem_of_lookup hy))
 ·exact Nat.le_of_lt (x.above y c (PySem.mem_of_lookup h))
 ·have hi:i<vs.length:=by
   unfold start at h2
   by_cases hi:i<vs.length
   ·exact hi
   ·rw[List.getElem?_append_right (by simpa using hi)]at h2
    rw[List.getElem?_replicate]at h2
    split at h2<;>cases h2
  have ha:vs[i]? =some v:=by
   unfold start at h2
   rw[List.getElem?_append_left (by simpa using hi),List.getElem?_map]at h2
   cases e:vs[i]? with
   | none=>rw[e]at h2;cases h2
   | some a=>rw[e]at h2;cases h2;rfl
  obtain ⟨u,hu,rv⟩:=r.get ha
  have hp:ps[i]? =some y:=by
   rw[<-S.pre,List.getElem?_take_of_lt (by omega)];exact h1
  have U4:ps.Nodup:=by rw[<-S.pre];exact S.nd.sublist (List.take_sublist _ _)
  refine ⟨u,rv,?_⟩
  rcases S.par y (List.mem_of_getElem? hp) with k | k
  ·exact .inl ⟨k,nV U4 hp hu k⟩
  ·obtain ⟨c,e⟩:=qQ (n:=s.heap.objs.size+1) k
   refine .inr ⟨.inl k,c,e,?_⟩
   have q:=x.cell y c e
   rw[nW U4 hp hu (by show scope.names.lookup y≠_;rw[k];decide)]at q
   exact q
 ·exact e0.aX.fresh (Nat.le_of_lt (x.above y c (PySem.mem_of_lookup h)))
 ·unfold start
  show _=N.length
  rw[List.length_append,List.length_map,List.length_replicate]
  omega
theorem ER {CX:vC} {P:Program} {w:World} {K:PySem.W.Frag} {mg:Str->Option Value} {base:Heap} {k:Nat} {f:Addr} {name qual:Str} {params:Arguments} {body:List Stmt} {scope:Scope} {dV kV doc pm dS ct oc:Value} {an od:Option Addr}
  {vD:Array (Option Value)} {N ps:List Str} {sp:Sp} (lk:K.lookup f=some ⟨oc,od, .func (PySem.W.fnOf name qual params body scope dV kV doc pm an dS ct),vD⟩) (nM:PySem.W.codeIn K dS qual=true) (S:bc N ps scope)
  (len: ∀vs H Q E,sp vs H Q E->vs.length=ps.length)
  (qR: ∀(A:Around) (outer:List Env) (s:Shared) (H:Hp) (vs:List V) (Q:VK) (E:XK),dA k (A.deeper (envOfC qual scope s.heap.objs.size f dS))->sp vs H Q E->
   ∃t,qM (qP CX P w K mg base N qual scope f dS A outer s H E) body t/\t { nx:=fun _ H'=>Q .bY H',rt:=Q } (start N vs) H):
  cD P w K mg base CX (k+1) f (PySem.W.fnOf name qual params body scope dV kV doc pm an dS ct) ps sp:=by
 refine ⟨len,fun A outer s H args us vs Q E hr e0 hb r B9=>?_⟩
 have hl:=len _ _ _ _ B9
 have KX:K.In s.heap:=e0.mod.Ka.keeps fun b o e=>(e0.bs b o e).1
 have lim:s.heap.NoLimit:=e0.mod.nolimit.keeps fun b o e=>(e0.bs b o e).1
 have gL: ∀y∈ps.zip us,scope.names.lookup y.1=some .local\/(scope.names.lookup y.1=some .cell/\((cellsFrom (s.heap.objs.size+1) scope.names []).lookup y.1).isSome=true):=fun ⟨n,v⟩ hy=>by
  rcases S.par n (List.of_mem_zip hy).1 with q | q
  ·exact .inl q
  ·exact .inr ⟨q,PySem.W.cellsFrom_some _ _ _ (.inl q)⟩
 refine codeAny_call_function hr.depth (KX _ _ lk) rfl S.co S.gen rfl (PySem.W.codeRec_of KX nM) (hb _ _ _ _ ?_)
 refine wpAny_newFunctionEnv_cells S.kind gL fun env he s1 x=>?_
 subst he
 refine ⟨lim.keeps x.toInCall.keep,codeAny_func ?_⟩
 obtain ⟨t,ht,hq⟩:=qR A outer s H vs Q E (hr.deeper _) B9
 have I:Inv (qP CX P w K mg base N qual scope f dS A outer s H E) [] (start N vs) H s1:=xf S hr.hd e0 hl r x
 refine wpAny_mono (ht [] s1 (start N vs) H _ I hq) (fun fl s' hs=>?_) fun e s' hs=>hs
 have fin: ∀{σ':St} {H':Hp} {v:V} {u:Value},Inv (qP CX P w K mg base N qual scope f dS A outer s H E) [] σ' H' s'->RelV v u->Q v H'->CE outer P w H s Q u s':=
  fun {σ' H' v u} J rv q=>⟨v,H',J.os,J.bare,J.base,J.aX,rv,q⟩
 cases fl with
 | ret u=>
  obtain ⟨v,σ',H',J,rv,q⟩:=hs
  exact fin J rv q
 | next=>
  obtain ⟨σ',H',J,q⟩:=hs
  exact fin (v:=V.bY) (u:=Value.none) J rfl q
 | brk=>
  obtain ⟨_,_,_,q⟩:=hs
  exact False.elim q
 | cont=>
  obtain ⟨_,_,_,q⟩:=hs
  exact False.elim q
end L2
namespace L2
open PySem PySem.Spec PyProof.Rows
section
variable {X:Cx} {x:Str} {p pos:Pos} {e:Expr} {es:List Expr} {t:TA} {id T:String} {r:List V->Hp->VK->Prop}
def NL (r:List V->Hp->VK->Prop) (t:TA):TE:=fun σ H Q=>t σ H fun vs H1=>r vs H1 Q
theorem au (hc:cS X (.builtin id) r) (hg:Gl X x) (hm:X.mg x=none) (hv:bootBuiltins x=some (.builtin id)) (ha:PA X (e::es) t) (hn:x≠"__name__":=by decide) (nu:(x==("__debug__":Str))=false:=by decide)
  (he:starEach (e::es) X.env=(false,eval e X.env)::starEach es X.env:=by rfl) (gB:(backTo pos (starEach es X.env)).any (·.1)=false:=by rfl):PE X (.Call (.Name x p) (e::es) [] pos) (NL r t):=by
 intro pins s σ H Q I h
 refine wpAny_Call_Name_kw (dz I hg hm hv ?_ hn nu)
 exact PyProof.Rows.callWith_builtin1 (bQ (ha pos pins s σ H _ I h) fun us s1 ⟨vs,H1,I1,r1,q1⟩=>hc pins s1 σ H1 vs us Q I1 r1 q1) he gB
theorem bb (hc:cS X (.type T) r) (hg:Gl X x) (hm:X.mg x=none) (hv:bootBuiltins x=some (.type T)) (ha:PA X (e::es) t) (hn:x≠"__name__":=by decide) (nu:(x==("__debug__":Str))=false:=by decide)
  (he:starEach (e::es) X.env=(false,eval e X.env)::starEach es X.env:=by rfl) (gB:(backTo pos (starEach es X.env)).any (·.1)=false:=by rfl):PE X (.Call (.Name x p) (e::es) [] pos) (NL r t):=by
 intro pins s σ H Q I h
 refine wpAny_Call_Name_kw (dz I hg hm hv ?_ hn nu)
 exact PyProof.Rows.callWith_type1 (bQ (ha pos pins s σ H _ I h) fun us s1 ⟨vs,H1,I1,r1,q1⟩=>hc pins s1 σ H1 vs us Q I1 r1 q1) he gB
end
end L2
namespace HT
open PySem PyProof.Rows
section
open PySem.SeqAt
open PySem.AutoSeq1 (wpAny_loadPart')
open PySem.MeetsSeq PySem.MeetsSeq2 PySem.MeetsSeq3
end
section
variable {prog:Program} {w:World} {A:Around} {E:Value->Shared->Prop} {s:Shared}
theorem vE {t b:Addr} {vs ws:List Value} {Q:Value->Shared->Prop} (ht:IsTup s.heap t vs.toArray) (hb:IsTup s.heap b ws.toArray) (hv:vs≠[])
  (h1:ws=[]->Q (.ref t) s) (h2:ws≠[]->Q (.ref s.heap.objs.size) { s with heap:=s.heap.push { cls:= .type "tuple",data:= .seq (vs++ws).toArray } })
  (hsz:vs.length+ws.length<=sizeLine):wpAny (model prog w) A (binaryOp .Add (.ref t) (.ref b)) Q E s:=by
 obtain ⟨⟨cls,dd,data,sl⟩,ho,hc,n,hd⟩:=id ht
 obtain ⟨⟨PU,NM,data2,uf⟩,y8,Kv,n2,hd2⟩:=id hb
 simp only at hc hd Kv hd2
 subst hc hd Kv hd2
 have e:vs.toArray++ws.toArray=(vs++ws).toArray:=by simp
 by_cases hw:ws=[]
 ·exact concat_meets ⟨_,ho,rfl⟩ ⟨_,y8,rfl⟩ noFill_tuple_add seq_tuple_add PySem.F.slot_tuple_add PySem.F.entry_tuple_add (PySem.F.args_tuple_add_2 _ _)
   (tuple_addW1 t b vs.toArray ws.toArray n n2 dd NM sl uf (by simpa using hv) (by simp[hw])) ⟨ho,y8,h1 hw⟩
 ·refine concat_meets ⟨_,ho,rfl⟩ ⟨_,y8,rfl⟩ noFill_tuple_add seq_tuple_add PySem.F.slot_tuple_add PySem.F.entry_tuple_add (PySem.F.args_tuple_add_2 _ _)
   (tuple_addW2 t b vs.toArray ws.toArray n n2 dd NM sl uf (by simpa using hv) (by simpa using hw) (by rw[List.size_toArray,List.size_toArray];exact hsz)) ⟨ho,y8,?_⟩
  rw[e]
  exact h2 hw
noncomputable def jF (n d:Nat):Option Int->Nat
 | none=>d
 | some v=>if v<0 then (v+(n:Int)).toNat else min v.toNat n
theorem qS (n d:Nat):jF n d none=d:=rfl
theorem vF (n d k:Nat):jF n d (some (k:Int))=min k n:=by
 show (if (k:Int)<0 then ((k:Int)+(n:Int)).toNat else min (k:Int).toNat n)=min k n
 rw[if_neg (by omega),Int.toNat_natCast]
theorem Gj (n d:Nat) (hd:d<=n) (o:Option Int):jF n d o<=n:=by
 cases o with
 | none=>exact hd
 | some v=>
  show (if v<0 then (v+(n:Int)).toNat else min v.toNat n)<=n
  by_cases hv:v<0
  ·rw[if_pos hv];omega
  ·rw[if_neg hv];exact Nat.min_le_right _ _
end
end HT
namespace L2
open PySem PySem.Spec PyProof.Rows
abbrev TO:=St->Hp->(Option Int->Hp->Prop)->Prop
def PO (X:Cx) (e:Option Expr) (t:TO):Prop:=
 ∀(pins:List (Addr×Obj)) (s:Shared) (σ:St) (H:Hp) (Q:Option Int->Hp->Prop),Inv X pins σ H s->t σ H Q->
  wpAny (model X.prog X.w) X.A (evalPart e X.env) (fun u s'=> ∃o H',Inv X pins σ H' s'/\IsPart u o/\Q o H') X.xe s
def CD:TO:=fun _ H Q=>Q none H
def Kw (t:TE):TO:=fun σ H Q=>t σ H fun x H1=> ∃i,x= .int i/\Q (some i) H1
section
variable {X:Cx} {e:Expr} {te:TE} {lo hi:Option Expr} {tl th:TO} {pos p2:Pos}
theorem fO:PO X none CD:=by
 intro pins s σ H Q I h
 rw[evalPart_none]
 exact wpAny_pure ⟨none,H,I, .none,h⟩
theorem fP (h:PE X e te):PO X (some e) (Kw te):=by
 intro pins s σ H Q I hw
 rw[evalPart_some]
 refine bQ (h pins s σ H _ I hw) fun u s1 ⟨x,H1,I1,r1,q1⟩=>?_
 obtain ⟨i,rfl,q⟩:=q1
 obtain ⟨t,rfl⟩:=r1
 exact ⟨some i,H1,I1, .int i t,q⟩
def NN (X:Cx) (r:V->Option Int->Option Int->Hp->VK->Prop):Prop:=
 ∀(pins:List (Addr×Obj)) (s:Shared) (σ:St) (H:Hp) (x:V) (v vl vu:Value) (lo hi:Option Int) (sl:Addr) (Q:VK),Inv X pins σ H s->RelV x v->s.heap.IsSliceOf sl vl vu .none->IsPart vl lo->IsPart vu hi->r x lo hi H Q->
  ∃T id,typeLookup (.type T) "__getitem__"=pure (some (.builtin id))/\s.TypeIs v T/\wpAny (model X.prog X.w) X.A (getItem v (.ref sl)) (EP X pins σ Q) X.xe s
def Xm (r:V->Option Int->Option Int->Hp->VK->Prop) (te:TE) (tl th:TO):TE:=fun σ H Q=>te σ H fun x H1=>tl σ H1 fun l H2=>th σ H2 fun u H3=>r x l u H3 Q
theorem eN {r:V->Option Int->Option Int->Hp->VK->Prop} (hr:NN X r) (he:PE X e te) (hl:PO X lo tl) (hu:PO X hi th):PE X (.Subscript e (.Slice lo hi none p2) pos) (Xm r te tl th):=by
 intro pins s σ H Q I h
 refine Subscript_ (bQ (he pins s σ H _ I h) fun v s1 ⟨x,H1,I1,r1,q1⟩=>?_)
 refine wpAny_Slice (bQ (hl pins s1 σ H1 _ I1 q1) fun vl s2 ⟨l,H2,I2,pl,q2⟩=>bQ (hu pins s2 σ H2 _ I2 q2) fun vu s3 ⟨u,H3,I3,pu,q3⟩=>?_)
 rw[evalPart_none]
 refine wpAny_pure ?_
 have I4:Inv X pins σ H3 { s3 with heap:=s3.heap.push { cls:= .type "slice",data:= .fields #[vl,vu, .none] } }:=I3.kept (t':=s3.toks) fun b ob q=>Heap.get?_push_of_some _ q
 obtain ⟨T,id,hT,ht,hg⟩:=hr pins { s3 with heap:=s3.heap.push { cls:= .type "slice",data:= .fields #[vl,vu, .none] } } σ H3 x v vl vu l u s3.heap.objs.size Q I4 r1 (Heap.IsSliceOf.new ..) pl pu q3
 show wpAny (model X.prog X.w) X.A (subscriptTail e (.Slice lo hi none p2) v (.ref s3.heap.objs.size)) (EP X pins σ Q) X.xe { s3 with heap:=s3.heap.push { cls:= .type "slice",data:= .fields #[vl,vu, .none] } }
 exact tail_any (ops:=[.ref s3.heap.objs.size,v]) ht hT hg (by with_unfolding_all rfl)
noncomputable def xg (xs:List V) (lo hi:Option Int):List V:=(xs.drop (HT.jF xs.length 0 lo)).take (HT.jF xs.length xs.length hi - HT.jF xs.length 0 lo)
theorem qT (xs:List V) (lo hi:Option Int):(xg xs lo hi).length<=xs.length:=by
 unfold xg
 rw[List.length_take,List.length_drop]
 omega
def ES (K:PySem.W.Frag):R2:=fun x y H Q=> ∃a b xs ys,x= .ref a/\y= .ref b/\aN K H a xs/\aN K H b ys/\xs≠[]/\xs.length+ys.length<=sizeLine/\
 (ys=[]->Q (.ref a) H)/\(ys≠[]-> ∀p,H p=none->Q (.ref p) (upd H p (.tup (xs++ys))))
theorem Vals.jL {xs:List V} {us:List Value} (r:Vals xs us):us=[]↔xs=[]:=by
 cases r with
 | nil=>simp
 | cons _ _=>simp
theorem CF:gc X (binaryOp .Add) (ES X.K):=by
 intro pins s σ H x y v u Q I rx ry h
 obtain ⟨a,b,xs,ys,rfl,rfl,ha,hb,hx,hz,q1,q2⟩:=h
 cases rx
 cases ry
 obtain ⟨aL,r1,p1,_⟩:=I.tuple ha
 obtain ⟨pK,r2,p2,_⟩:=I.tuple hb
 refine HT.vE p1 p2 (fun z=>hx (r1.jL.mp z)) (fun z=>⟨.ref a,H,I,rfl,q1 (r2.jL.mp z)⟩) (fun z=>?_) (by rw[<-r1.length, <-r2.length];exact hz)
 refine ⟨.ref s.heap.objs.size,_,I.laid (t':=s.toks) (o:= .tup (xs++ys)) (fun b ob q=>Heap.get?_push_of_some _ q) (Nat.le_refl _) ?_,rfl,q2 (fun w=>z (r2.jL.mpr w)) _ (I.aX.fresh (Nat.le_refl _))⟩
 exact ⟨by rw[List.length_append];exact hz,_,r1.append r2,IsTup.new _ _⟩
end
end L2
namespace L2
open PySem PySem.Spec PyProof.Rows
noncomputable def zE (n:Nat) (i:Int):Option Nat:=if 0<=i then (if i<n then some i.toNat else none) else if -(n:Int)<=i then some (i+n).toNat else none
noncomputable def m9 {α:Type} (xs:List α) (i:Int):Option α:=(zE xs.length i).bind fun j=>xs[j]?
theorem vG {n:Nat} {i:Int} {j:Nat} (h:zE n i=some j):seqIndex? i n=some j/\j<n/\ -(n:Int)<=i/\i<n:=by
 unfold zE at h
 by_cases h0:0<=i
 ·rw[if_pos h0]at h
  by_cases h1:i<n
  ·rw[if_pos h1]at h
   have e:i.toNat=j:=Option.some.inj h
   exact ⟨by rw[seqIndex_of h0 h1,e],by omega,by omega,h1⟩
  ·rw[if_neg h1]at h;cases h
 ·rw[if_neg h0]at h
  by_cases h1: -(n:Int)<=i
  ·rw[if_pos h1]at h
   have e:(i+n).toNat=j:=Option.some.inj h
   exact ⟨by rw[seqIndex_neg (by omega) h1,e],by omega,h1,by omega⟩
  ·rw[if_neg h1]at h;cases h
theorem pL {α:Type} {xs:List α} {i:Int} {v:α} (h:m9 xs i=some v): ∃j,seqIndex? i xs.length=some j/\xs[j]? =some v/\j<xs.length/\ -(xs.length:Int)<=i/\i<xs.length:=by
 unfold m9 at h
 cases e:zE xs.length i with
 | none=>rw[e]at h;cases h
 | some j=>
  rw[e]at h
  obtain ⟨h1,h2,h3,h4⟩:=vG e
  exact ⟨j,h1,h,h2,h3,h4⟩
theorem aA {α:Type} {xs:List α} {j:Nat} {v:α} (h:xs[j]? =some v):m9 xs (j:Int)=some v:=by
 have hj:j<xs.length:=(List.getElem?_eq_some_iff.mp h).1
 have e:zE xs.length (j:Int)=some j:=by
  unfold zE
  rw[if_pos (by omega),if_pos (by omega)];simp
 unfold m9;rw[e];exact h
theorem zF {α:Type} (xs:List α) (v:α):m9 (xs++[v]) (-1)=some v:=by
 have hl:(xs++[v]).length=xs.length+1:=by simp
 have e:zE (xs++[v]).length (-1)=some xs.length:=by
  unfold zE
  rw[hl,if_neg (by decide),if_pos (by omega)]
  congr 1
  omega
 unfold m9
 rw[e]
 show (xs++[v])[xs.length]? =some v
 simp
def CG (b:Expr):Prop:= ∀o i,subscripted b false o i=operate [o,i] (getItem o i)
def Gk (X:Cx) (r:R2):Prop:=
 ∀(value slice:Expr) (pins:List (Addr×Obj)) (s:Shared) (σ:St) (H:Hp) (x y:V) (v u:Value) (Q:VK),Inv X pins σ H s->RelV x v->RelV y u->r x y H Q->
  subscripted slice false v u=operate [v,u] (getItem v u)->wpAny (model X.prog X.w) X.A (subscriptTail value slice v u) (EP X pins σ Q) X.xe s
def xh (X:Cx) (id:String) (r:V->List V->Hp->VK->Prop):Prop:=
 ∀(pins:List (Addr×Obj)) (s:Shared) (σ:St) (H:Hp) (x:V) (xs:List V) (v:Value) (us:List Value) (Q:VK),Inv X pins σ H s->RelV x v->Vals xs us->r x xs H Q->
  wpAny (model X.prog X.w) X.A (call (.builtin id) (v::us)) (EP X pins σ Q) X.xe s
section
variable {X:Cx} {a b:Expr} {ta tb:TE} {pos:Pos}
theorem az {r:R2} (hr:Gk X r) (ha:PE X a ta) (hb:PE X b tb) (hs:CG b):PE X (.Subscript a b pos) (Jw r ta tb):=by
 intro pins s σ H Q I h
 exact Subscript_ (Ga ha hb I h fun v u s2 x y H2 I2 rx ry q=>hr a b pins s2 σ H2 x y v u Q I2 rx ry q (hs _ _))
def Gm (K:PySem.W.Frag):R2:=fun x y H Q=> ∃p xs i v,x= .ref p/\y= .int i/\aJ K H p xs/\m9 xs i=some v/\Q v H
def Kx (K:PySem.W.Frag):R2:=fun x y H Q=> ∃p xs i v,x= .ref p/\y= .int i/\aN K H p xs/\m9 xs i=some v/\Q v H
def PV:R2:=fun x y H Q=> ∃z i c,x= .str z/\y= .int i/\z.length<=sizeLine/\m9 z.cps.toList i=some c/\Q (.str ⟨#[c]⟩) H
theorem CH:Gk X (Gm X.K):=by
 intro value slice pins s σ H x y v u Q I rx ry h hs
 obtain ⟨p,xs,i,z,rfl,rfl,hq,he,q⟩:=h
 cases rx
 obtain ⟨t,rfl⟩:=ry
 obtain ⟨aL,r,pl,hz⟩:=I.list hq
 obtain ⟨j,h1,h2,h3,h4,h5⟩:=pL he
 obtain ⟨w,ew,wY⟩:=r.get h2
 have hl:=r.length
 have hn:=jq
 have fin:EP X pins σ Q w s:=⟨z,H,I,wY,q⟩
 by_cases h0:0<=i
 ·have hj:i.toNat=j:=by
   rw[seqIndex_of h0 h5]at h1
   exact Option.some.inj h1
  exact item_listR pl.isList h0 (by omega) (by rw[hj];simpa using ew) fin hs
 ·have hj:(i+(aL.toArray.size:Int)).toNat=j:=by
   rw[seqIndex_neg (by omega) h4]at h1
   rw[List.size_toArray, <-hl]
   exact Option.some.inj h1
  exact subscriptTail_builtinR (x:=w) pl.isList.typeIs slot_list_getitem.lookup
   (wpAny_getItem_list_neg (Q:=fun r s'=>r=w/\EP X pins σ Q r s') pl.isList (by omega) (by rw[List.size_toArray]<;>omega) (by omega) (by rw[hj];simpa using ew) ⟨rfl,fin⟩) hs
theorem Gn:Gk X (Kx X.K):=by
 intro value slice pins s σ H x y v u Q I rx ry h hs
 obtain ⟨p,xs,i,z,rfl,rfl,hq,he,q⟩:=h
 cases rx
 obtain ⟨t,rfl⟩:=ry
 obtain ⟨aL,r,pl,hz⟩:=I.tuple hq
 obtain ⟨j,h1,h2,h3,h4,h5⟩:=pL he
 obtain ⟨w,ew,wY⟩:=r.get h2
 have hl:=r.length
 have hn:=jq
 have fin:EP X pins σ Q w s:=⟨z,H,I,wY,q⟩
 exact subscriptTail_builtinR (x:=w) pl.typeIs slot_tuple_getitem.lookup
  (getItem_tuple (j:=j) (Q:=fun r s'=>r=w/\EP X pins σ Q r s') pl (by omega) (by omega) (by rw[List.size_toArray, <-hl];exact h1) (by simpa using ew) ⟨rfl,fin⟩) hs
theorem Gp:Gk X PV:=by
 intro value slice pins s σ H x y v u Q I rx ry h hs
 obtain ⟨z,i,c,rfl,rfl,hz,he,q⟩:=h
 obtain ⟨t,rfl⟩:=rx
 obtain ⟨t',rfl⟩:=ry
 obtain ⟨j,h1,h2,h3,h4,h5⟩:=pL he
 have hl:z.cps.toList.length=z.length:=by simp[Str.length]
 rw[hl]at h1 h4 h5
 have hn:=jq
 exact tail_any (typeIs_str s z t) slot_str_getitem.lookup (getItem_str (c:=c) (by
  have e1:decide (i< -(2 ^ 63:Int))=false:=decide_eq_false (by omega)
  have e2:decide (i ≥ 2 ^ 63)=false:=decide_eq_false (by omega)
  rw[e1,e2,Bool.or_false]) (by rw[h1];simpa using h2) ⟨.str ⟨#[c]⟩,H,I.tok _,⟨_,rfl⟩,q⟩) hs
theorem ug (aL:List Value) (n j:Nat) (u:Value):Obj.mapSeq (·.setIfInBounds j u) { cls:= .type "list",data:= .seq aL.toArray n }={ cls:= .type "list",data:= .seq (aL.set j u).toArray n }:=by
 simp[Obj.mapSeq]
theorem Inv.lst {pins:List (Addr×Obj)} {σ:St} {H:Hp} {s:Shared} {p:Addr} {xs:List V} (I:Inv X pins σ H s) (h:H p=some (.lst xs)):
  ∃(aL:List Value) (n:Nat),Vals xs aL/\s.heap.get? p=some { cls:= .type "list",data:= .seq aL.toArray n }/\xs.length<=sizeLine:=by
 obtain ⟨z,aL,n,r,e⟩:=I.aX p _ h
 exact ⟨aL,n,r,e,z⟩
theorem Inv.Gq {pins:List (Addr×Obj)} {σ:St} {H:Hp} {s:Shared} {p:Addr} {xs ys:List V} {aL its':List Value} {n n':Nat} {f:Obj->Obj} (I:Inv X pins σ H s) (h:H p=some (.lst xs))
  (ho:s.heap.get? p=some { cls:= .type "list",data:= .seq aL.toArray n }) (hf:f { cls:= .type "list",data:= .seq aL.toArray n }={ cls:= .type "list",data:= .seq its'.toArray n' }) (r:Vals ys its') (hz:ys.length<=sizeLine) (t:Nat):
  Inv X pins σ (upd H p (.lst ys)) { s with heap:=s.heap.update p f,toks:=t }:=by
 have e:(s.heap.update p f).get? p=some { cls:= .type "list",data:= .seq its'.toArray n' }:=by
  rw[Heap.get?_update_self f ho (by rw[hf]<;>rfl),hf]
 refine I.write (x:=p) (e:=p) (by rw[h];trivial) (.inl rfl) (fun b u hb q=>(Heap.get?_update_other _ _ (Ne.symm hb)).trans q) ⟨_,e⟩ ?_
 exact ⟨hz,its',n',r,e⟩
def Ky:V->V->V->Hp->(Hp->Prop)->Prop:=fun o i v H Q=> ∃p xs k j,o= .ref p/\i= .int k/\H p=some (.lst xs)/\zE xs.length k=some j/\Q (upd H p (.lst (xs.set j v)))
theorem set_list:Kg X Ky:=by
 intro pins s σ H o i v ov iv u Q I ro ri rv h
 obtain ⟨p,xs,k,j,rfl,rfl,hp,hj,q⟩:=h
 cases ro
 obtain ⟨t,rfl⟩:=ri
 obtain ⟨aL,n,r,ho,hz⟩:=I.lst hp
 obtain ⟨h1,h2,h3,h4⟩:=vG hj
 have hl:=r.length
 have hn:=jq
 have I':Inv X pins σ (upd H p (.lst (xs.set j v))) { s with heap:=s.heap.update p (Obj.mapSeq (·.setIfInBounds j u)) }:=
  I.Gq hp ho (ug aL n j u) (r.set rv j) (by rw[List.length_set];exact hz) s.toks
 by_cases h0:0<=k
 ·have hk:k.toNat=j:=by
   rw[seqIndex_of h0 h4]at h1
   exact Option.some.inj h1
  exact PySem.W.ki_setAt ho h0 (by omega) (by rw[List.size_toArray, <-hl];exact h4) (by rw[hk];exact ⟨_,I',q⟩)
 ·have hk:(k+(aL.toArray.size:Int)).toNat=j:=by
   rw[seqIndex_neg (by omega) h3]at h1
   rw[List.size_toArray, <-hl]
   exact Option.some.inj h1
  exact PySem.W.ki_setBack ho (by omega) (by rw[List.size_toArray, <-hl];exact h3) (by omega) (by rw[hk];exact ⟨_,I',q⟩)
theorem pM (lo hi:Option Int) (n:Nat):(sliceBounds lo hi none n).1=((HT.jF n 0 lo:Nat):Int)/\(sliceBounds lo hi none n).2.1=((HT.jF n n hi:Nat):Int)/\(sliceBounds lo hi none n).2.2=1:=by
 refine ⟨?_,?_,rfl⟩
 ·cases lo with
  | none=>simp[sliceBounds,HT.jF]
  | some i=>
   simp only[sliceBounds,HT.jF,Option.getD_none,show (1:Int)>0 by decide,if_true]
   by_cases h:i<0
   ·simp only[h,if_true]<;>omega
   ·simp only[h,if_false]<;>omega
 ·cases hi with
  | none=>simp[sliceBounds,HT.jF]
  | some i=>
   simp only[sliceBounds,HT.jF,Option.getD_none,show (1:Int)>0 by decide,if_true]
   by_cases h:i<0
   ·simp only[h,if_true]<;>omega
   ·simp only[h,if_false]<;>omega
theorem ny (aL:List Value) (lo hi:Option Int):slicePick aL.toArray lo hi none=((aL.drop (HT.jF aL.length 0 lo)).take (HT.jF aL.length aL.length hi - HT.jF aL.length 0 lo)).toArray:=by
 obtain ⟨h1,h2,h3⟩:=pM lo hi aL.toArray.size
 unfold slicePick
 rw[h1,h2,h3]
 simp only[sliceRange_one,pick_run,List.size_toArray]<;>rfl
def Kz (K:PySem.W.Frag):V->Option Int->Option Int->Hp->VK->Prop:=fun x lo hi H Q=> ∃a xs,x= .ref a/\aJ K H a xs/\ ∀p,H p=none->Q (.ref p) (upd H p (.lst (xg xs lo hi)))
theorem CI:NN X (Kz X.K):=by
 intro pins s σ H x v vl vu lo hi sl Q I rx hs pl pu h
 obtain ⟨a,xs,rfl,hx,q⟩:=h
 cases rx
 obtain ⟨aL,r,ht,hz⟩:=I.list hx
 have hlen:=r.length
 refine ⟨"list",_,slot_list_getitem.lookup,ht.isList.typeIs,?_⟩
 refine wpAny_getItem_list_slice ht.isList hs pl pu .none (by simp) ?_ (by rw[List.size_toArray]<;>omega)
 rw[ny, <-hlen]
 refine ⟨.ref s.heap.objs.size,_,I.laid (t':=s.toks) (o:= .lst (xg xs lo hi)) (fun b ob q=>Heap.get?_push_of_some _ q) (Nat.le_refl _) ?_,rfl,q _ (I.aX.fresh (Nat.le_refl _))⟩
 exact ⟨Nat.le_trans (qT xs lo hi) hz,_,0,(r.drop (HT.jF xs.length 0 lo)).take (HT.jF xs.length xs.length hi - HT.jF xs.length 0 lo),Heap.get?_push_size _ rfl⟩
noncomputable def g_:V->Bool
 | .bY=>true
 | .bl _=>true
 | .int _=>true
 | .str _=>true
 | _=>false
noncomputable def y9:V->V->Bool
 | .bY, .bY=>true
 | .bl a, .bl b=>a==b
 | .bl a, .int b=>(if a then 1 else 0)==b
 | .int a, .bl b=>a==(if b then 1 else 0)
 | .int a, .int b=>a==b
 | .str a, .str b=>a==b
 | _,_=>false
theorem Gr {A:Around} {s:Shared} {y x:V} {u v:Value} (ry:RelV y u) (rx:RelV x v) (fy:g_ y=true) (fx:g_ x=true):SeqAt.EqAt A s u v (y9 y x):=by
 cases y with
 | bY=>
  cases ry
  cases x with
  | bY=>cases rx;exact SeqAt.EqAt.same _
  | bl b=>cases rx;exact SeqAt.EqAt.none_bool b
  | int b=>obtain ⟨t,rfl⟩:=rx;exact SeqAt.EqAt.none_int b t
  | str b=>obtain ⟨t,rfl⟩:=rx;exact SeqAt.EqAt.none_str b t
  | _=>exact absurd (show false=true from fx) Bool.false_ne_true
 | bl a=>
  cases ry
  cases x with
  | bY=>cases rx;exact SeqAt.EqAt.bool_none a
  | bl b=>cases rx;exact SeqAt.EqAt.bool_bool a b
  | int b=>obtain ⟨t,rfl⟩:=rx;exact SeqAt.EqAt.bool_int a b t
  | str b=>obtain ⟨t,rfl⟩:=rx;exact SeqAt.EqAt.bool_str a b t
  | _=>exact absurd (show false=true from fx) Bool.false_ne_true
 | int a=>
  obtain ⟨t',rfl⟩:=ry
  cases x with
  | bY=>cases rx;exact SeqAt.EqAt.int_none a t'
  | bl b=>cases rx;exact SeqAt.EqAt.int_bool a t' b
  | int b=>obtain ⟨t,rfl⟩:=rx;exact SeqAt.EqAt.int_int a t' b t
  | str b=>obtain ⟨t,rfl⟩:=rx;exact SeqAt.EqAt.int_str a t' b t
  | _=>exact absurd (show false=true from fx) Bool.false_ne_true
 | str a=>
  obtain ⟨t',rfl⟩:=ry
  cases x with
  | bY=>cases rx;exact SeqAt.EqAt.str_none a t'
  | bl b=>cases rx;exact SeqAt.EqAt.str_bool a t' b
  | int b=>obtain ⟨t,rfl⟩:=rx;exact SeqAt.EqAt.str_int a t' b t
  | str b=>obtain ⟨t,rfl⟩:=rx;exact SeqAt.EqAt.str_str a t' b t
  | _=>exact absurd (show false=true from fx) Bool.false_ne_true
 | _=>exact absurd (show false=true from fy) Bool.false_ne_true
noncomputable def qU (x:V) (u:Value):Bool:=match u with
 | .none=>y9 .bY x
 | .bool b=>y9 (.bl b) x
 | .int i _=>y9 (.int i) x
 | .str z _=>y9 (.str z) x
 | _=>false
theorem uh {x y:V} {u:Value} (r:RelV y u) (f:g_ y=true):qU x u=y9 y x:=by
 cases y with
 | bY=>cases r;rfl
 | bl b=>cases r;rfl
 | int i=>obtain ⟨t,rfl⟩:=r;rfl
 | str z=>obtain ⟨t,rfl⟩:=r;rfl
 | _=>exact absurd (show false=true from f) Bool.false_ne_true
theorem jM {x:V}: ∀{xs:List V} {us:List Value},Vals xs us->xs.all g_=true->us.any (qU x)=xs.any fun y=>y9 y x
 | _,_, .nil,_=>rfl
 | y::xs,u::us, .cons r t,f=>by
  rw[List.all_cons,Bool.and_eq_true]at f
  rw[List.any_cons,List.any_cons,uh r f.1,jM t f.2]
theorem gi {A:Around} {s:Shared} {x:V} {v:Value} (rx:RelV x v) (fx:g_ x=true): ∀{xs:List V} {us:List Value},Vals xs us->xs.all g_=true-> ∀u∈us,SeqAt.EqAt A s u v (qU x u)
 | _,_, .nil,_=>fun u hu=>by cases hu
 | y::xs,u::us, .cons r t,f=>fun u' hu=>by
  rw[List.all_cons,Bool.and_eq_true]at f
  rcases List.mem_cons.mp hu with rfl | hu
  ·rw[uh r f.1];exact Gr r rx f.1 fx
  ·exact gi rx fx t f.2 u' hu
noncomputable def qV (x:V) (xs:List V):Bool:=xs.any fun y=>y9 y x
def NO (K:PySem.W.Frag) (neg:Bool):R2:=fun x y H Q=> ∃p xs,y= .ref p/\(aJ K H p xs\/aN K H p xs)/\g_ x=true/\xs.all g_=true/\Q (.bl (if neg then !qV x xs else qV x xs)) H
theorem xj:gc X (compareOp .In) (NO X.K false):=by
 intro pins s σ H x y v u Q I rx ry h
 obtain ⟨p,xs,rfl,hq,fx,fs,q⟩:=h
 cases ry
 rcases hq with hq | hq
 ·obtain ⟨aL,r,pl,hz⟩:=I.list hq
  refine SeqAt.in_listAt (qU x) pl.isList (fun w hw=>gi rx fx r fs w (by simpa using hw)) ⟨.bl _,H,I,rfl,?_⟩
  rw[show aL.toArray.any (qU x)=aL.any (qU x) by simp,jM r fs]
  exact q
 ·obtain ⟨aL,r,pl,hz⟩:=I.tuple hq
  refine SeqAt.in_tupleAt (qU x) pl (fun w hw=>gi rx fx r fs w (by simpa using hw)) ⟨.bl _,H,I,rfl,?_⟩
  rw[show aL.toArray.any (qU x)=aL.any (qU x) by simp,jM r fs]
  exact q
theorem pN:gc X (compareOp .NotIn) (NO X.K true):=by
 intro pins s σ H x y v u Q I rx ry h
 obtain ⟨p,xs,rfl,hq,fx,fs,q⟩:=h
 cases ry
 rcases hq with hq | hq
 ·obtain ⟨aL,r,pl,hz⟩:=I.list hq
  refine SeqAt.notIn_listAt (qU x) pl.isList (fun w hw=>gi rx fx r fs w (by simpa using hw)) ⟨.bl _,H,I,rfl,?_⟩
  rw[show aL.toArray.any (qU x)=aL.any (qU x) by simp,jM r fs]
  exact q
 ·obtain ⟨aL,r,pl,hz⟩:=I.tuple hq
  refine SeqAt.notIn_tupleAt (qU x) pl (fun w hw=>gi rx fx r fs w (by simpa using hw)) ⟨.bl _,H,I,rfl,?_⟩
  rw[show aL.toArray.any (qU x)=aL.any (qU x) by simp,jM r fs]
  exact q
theorem pO:cS X (.builtin "len") (fun xs H Q=> ∃p ys,xs=[.ref p]/\(aJ X.K H p ys\/aN X.K H p ys)/\Q (.int ys.length) H):=by
 intro pins s σ H xs us Q I r h
 obtain ⟨p,ys,rfl,hq,q⟩:=h
 obtain ⟨u,rfl,rx⟩:=vals1 r
 cases rx
 have hn:=jq
 rcases hq with hq | hq
 ·obtain ⟨aL,r',pl,hz⟩:=I.list hq
  have hlen:=r'.length
  exact Calls.call_len_list pl.isList (by simp only[List.size_toArray]<;>omega) ⟨.int ys.length,H,I.tok _,⟨s.toks+1,by rw[List.size_toArray,hlen]⟩,q⟩
 ·obtain ⟨aL,r',pl,hz⟩:=I.tuple hq
  have hlen:=r'.length
  exact len_tuple pl (by simp only[List.size_toArray]<;>omega) ⟨.int ys.length,H,I.tok _,⟨s.toks+1,by rw[List.size_toArray,hlen]⟩,q⟩
theorem pP:cS X (.builtin "len") (fun xs H Q=> ∃z,xs=[.str z]/\z.length<=sizeLine/\Q (.int z.length) H):=by
 intro pins s σ H xs us Q I r h
 obtain ⟨z,rfl,hz,q⟩:=h
 obtain ⟨u,rfl,t,rfl⟩:=vals1 r
 have hn:=jq
 exact len_str (by omega) ⟨.int z.length,H,I.tok _,⟨_,rfl⟩,q⟩
theorem pQ:cS X (.type "list") (fun xs H Q=> ∃p ys,xs=[.ref p]/\(aJ X.K H p ys\/aN X.K H p ys)/\ ∀l,H l=none->Q (.ref l) (upd H l (.lst ys))):=by
 intro pins s σ H xs us Q I r h
 obtain ⟨p,ys,rfl,hq,q⟩:=h
 obtain ⟨u,rfl,rx⟩:=vals1 r
 cases rx
 have fin: ∀(aL:List Value),Vals ys aL->ys.length<=sizeLine-> ∀(h':Heap) (c':Nat),(∀b o',s.heap.get? b=some o'->h'.get? b=some o')->
   h'.get? s.heap.objs.size=some { cls:= .type "list",dict:=none,data:= .seq aL.toArray c',slots:= #[] }->EP X pins σ Q (.ref s.heap.objs.size) { s with heap:=h' }:=fun aL r' hz h' c' kp e=>
  ⟨.ref s.heap.objs.size,_,I.laid (t':=s.toks) kp (Nat.le_refl _) (show bG X.prog X.w _ h' _ (.lst ys) from ⟨hz,aL,c',r',e⟩),rfl,q _ (I.aX.fresh (Nat.le_refl _))⟩
 rcases hq with hq | hq
 ·obtain ⟨aL,r',pl,hz⟩:=I.list hq
  have hlen:=r'.length
  obtain ⟨o,ho,hc,n,hd⟩:=pl.isList
  exact call_list_seq p (.inl rfl) ho hc hd (fun h' c' kp e=>fin aL r' hz h' c' kp e) (by simp only[List.size_toArray]<;>omega)
 ·obtain ⟨aL,r',pl,hz⟩:=I.tuple hq
  have hlen:=r'.length
  obtain ⟨o,ho,hc,n,hd⟩:=pl
  exact call_list_seq p (.inr rfl) ho hc hd (fun h' c' kp e=>fin aL r' hz h' c' kp e) (by simp only[List.size_toArray]<;>omega)
theorem nz:cS X (.type "tuple") (fun xs H Q=> ∃p ys,xs=[.ref p]/\((aJ X.K H p ys/\ ∀l,H l=none->Q (.ref l) (upd H l (.tup ys)))\/(aN X.K H p ys/\Q (.ref p) H))):=by
 intro pins s σ H xs us Q I r h
 obtain ⟨p,ys,rfl,h⟩:=h
 obtain ⟨u,rfl,rx⟩:=vals1 r
 cases rx
 rcases h with ⟨hq,q⟩ | ⟨hq,q⟩
 ·obtain ⟨aL,r',pl,hz⟩:=I.list hq
  have hlen:=r'.length
  refine call_tuple_list pl.isList (fun h' kp=>?_) (by simp only[List.size_toArray]<;>omega)
  have I1:Inv X pins σ H { s with heap:=h' }:=I.kept (t':=s.toks) kp
  have I2:Inv X pins σ (upd H h'.objs.size (.tup ys)) { s with heap:=h'.push { cls:= .type "tuple",data:= .seq aL.toArray } }:=
   I1.laid (t':=s.toks) (fun b o e=>Heap.get?_push_of_some _ e) (Nat.le_refl _) (show bG X.prog X.w _ _ _ (.tup ys) from ⟨hz,aL,r',IsTup.new _ _⟩)
  exact ⟨.ref h'.objs.size,_,I2,rfl,q _ (I1.aX.fresh (Nat.le_refl _))⟩
 ·obtain ⟨aL,r',pl,hz⟩:=I.tuple hq
  exact call_tuple_same pl ⟨.ref p,H,I,rfl,q⟩
def PZ (K:PySem.W.Frag) (T:String) (x:V) (H:Hp):Prop:=match x with
 | .str _=>T="str"
 | .int _=>T="int"
 | .ref p=>(T="list"/\ ∃xs,aJ K H p xs)\/(T="tuple"/\ ∃o,K.lookup p=some o/\o.cls= .type "tuple"/\o.dict=none)\/
   (T="dict"/\((∃kvs,H p=some (.dK kvs))\/ ∃kvs,H p=some (.dT kvs)))\/(T="set"/\ ∃S n,H p=some (.set S n))
 | _=>False
theorem zG {pins:List (Addr×Obj)} {σ:St} {H:Hp} {s:Shared} {T:String} {x:V} {v:Value} (I:Inv X pins σ H s) (r:RelV x v) (ty:PZ X.K T x H):
  s.TypeIs v T/\ ∀a,v= .ref a-> ∃ob,s.heap.get? a=some ob/\ob.dict=none:=by
 cases x with
 | str z=>
  obtain ⟨t,rfl⟩:=r
  cases (show T="str" from ty)
  exact ⟨typeIs_str s z t,fun _ e=>nomatch e⟩
 | int i=>
  obtain ⟨t,rfl⟩:=r
  cases (show T="int" from ty)
  exact ⟨typeIs_int s i t,fun _ e=>nomatch e⟩
 | ref p=>
  cases r
  rcases ty with ⟨rfl,xs,hq⟩ | ⟨rfl,o,hk,hc,hd⟩ | ⟨rfl,hk⟩ | ⟨rfl,S,n,hk⟩
  ·obtain ⟨aL,_,pl,_⟩:=I.list hq
   refine ⟨pl.isList.typeIs,fun a e=>?_⟩
   cases e
   obtain ⟨o,n,e,c,hd,_⟩:=pl
   exact ⟨o,e,hd⟩
  ·refine ⟨⟨o,I.jn p o hk,hc⟩,fun a e=>?_⟩
   cases e
   exact ⟨o,I.jn _ o hk,hd⟩
  ·have z: ∃o,s.heap.get? p=some o/\o.ExactDict:=by
    rcases hk with ⟨kvs,hk⟩ | ⟨kvs,hk⟩
    ·obtain ⟨_,_,_,_,o,_,_,e,ex,_⟩:=I.aX p _ hk
     exact ⟨o,e,ex⟩
    ·obtain ⟨_,_,_,_,o,_,_,e,ex,_⟩:=I.aX p _ hk
     exact ⟨o,e,ex⟩
   obtain ⟨o,e,ex⟩:=z
   refine ⟨⟨o,e,ex.1⟩,fun a e2=>?_⟩
   cases e2
   exact ⟨o,e,ex.2.1⟩
  ·obtain ⟨o,_,_,_,e,ex,_⟩:=I.aX p _ hk
   refine ⟨⟨o,e,ex.1⟩,fun a e2=>?_⟩
   cases e2
   exact ⟨o,e,ex.2.1⟩
 | _=>exact False.elim ty
def KA (K:PySem.W.Frag) (T:String) (r:V->List V->Hp->VK->Prop) (to:TE):TE:=fun σ H Q=>to σ H fun x H1=>PZ K T x H1/\r x [] H1 Q
def U5 (K:PySem.W.Frag) (T:String) (r:V->List V->Hp->VK->Prop) (to:TE) (t:TA):TE:=fun σ H Q=>to σ H fun x H1=>PZ K T x H1/\t σ H1 fun xs H2=>r x xs H2 Q
variable {o e:Expr} {es:List Expr} {to:TE} {t:TA} {name:Str} {apos dX:Pos} {T id:String} {r:V->List V->Hp->VK->Prop}
theorem Gs (pa:PlainAttrs T) (slot:Slot T name id) (B_:typeOf (.builtin id)=pure (.type "method_descriptor")) (hm:xh X id r) (ho:PE X o to)
  (lW:attributeBase o name X.env (eval o X.env)=eval o X.env:=by rfl) (lX:(apos.endLine==dX.line)=true:=by rfl):PE X (.Call (.Attribute o name apos) [] [] dX) (KA X.K T r to):=by
 intro pins s σ H Q I h
 refine wpAny_Call_method0_late lW lX (bQ (ho pins s σ H _ I h) fun v s1 ⟨x,H1,I1,r1,ty,q1⟩=>?_)
 obtain ⟨h1,h2⟩:=zG I1 r1 ty
 exact ⟨T,id,pa,slot,B_,h1,h2,Calls.callWith_builtin rfl (PySem.evalArgs_none (hm pins s1 σ H1 x [] v [] Q I1 r1 .nil q1))⟩
theorem KC (pa:PlainAttrs T) (slot:Slot T name id) (B_:typeOf (.builtin id)=pure (.type "method_descriptor")) (hm:xh X id r) (ho:PE X o to) (ha:PA X (e::es) t)
  (lW:attributeBase o name X.env (eval o X.env)=eval o X.env:=by rfl)
  (Gu:((backTo dX (starEach (e::es) X.env)).all (fun x=>!x.1)&&(backToKw dX (keywordEach [] X.env)).all (fun x=>x.1.isSome)
   &&decide ((e::es).length+([]:List Keyword).length+(if ([]:List Keyword).isEmpty then 0 else 1)<30))=true:=by rfl)
  (lX:(apos.endLine==dX.line)=true:=by rfl) (hs:starEach (e::es) X.env=(false,eval e X.env)::starEach es X.env:=by rfl) (ui:(backTo dX (starEach es X.env)).any (·.1)=false:=by rfl):
  PE X (.Call (.Attribute o name apos) (e::es) [] dX) (U5 X.K T r to t):=by
 intro pins s σ H Q I h
 refine wpAny_Call_method_late lW Gu lX rfl (bQ (ho pins s σ H _ I h) fun v s1 ⟨x,H1,I1,r1,ty,q1⟩=>?_)
 obtain ⟨h1,h2⟩:=zG I1 r1 ty
 refine ⟨T,id,pa,slot,B_,h1,h2,?_⟩
 have hA:=ha dX pins s1 σ H1 _ I1 q1
 rw[hs]at hA ⊢
 refine Calls.callWith_builtin (by show (false||(backTo dX (starEach es X.env)).any (·.1))=false;rw[ui]<;>rfl) (Calls.evalArgs_plain ?_)
 exact bQ hA fun us s2 ⟨vs,H2,I2,r2,q2⟩=>hm pins s2 σ H2 x vs v us Q I2 r1 r2 q2
end
end L2
namespace L2
open PySem PySem.Spec PyProof.Rows
def KG (X:Cx) (id:String) (r:V->List V->Hp->VK->Prop):Prop:=
 ∀(pins:List (Addr×Obj)) (s:Shared) (σ:St) (H:Hp) (x:V) (xs:List V) (v:Value) (us:List Value) (Q:VK),Inv X pins σ H s->RelV x v->Vals xs us->r x xs H Q->
  wpAny (model X.prog X.w) X.A (call (.builtin id) (v::us)) (EP X pins σ Q) X.xe s
theorem Vals.one: ∀{x:V} {us:List Value},Vals [x] us-> ∃u,us=[u]/\RelV x u
 | _,_, .cons r .nil=>⟨_,rfl,r⟩
theorem Vals.eraseIdx: ∀{xs:List V} {us:List Value} (i:Nat),Vals xs us->Vals (xs.eraseIdx i) (us.eraseIdx i)
 | _,_,_, .nil=> .nil
 | _,_,0, .cons _ t=>t
 | _,_,i+1, .cons r t=> .cons r (Vals.eraseIdx i t)
theorem kr {α:Type}: ∀(l:List α) (i:Nat),(l.eraseIdx i).length<=l.length
 | [],_=>Nat.le_refl _
 | _::_,0=>Nat.le_succ _
 | _::r,i+1=>Nat.succ_le_succ (kr r i)
section
variable {X:Cx} {pins:List (Addr×Obj)} {σ:St} {H:Hp} {s:Shared} {l b:Addr} {xs ys zs:List V}
theorem Inv.zI {aL its':List Value} {n:Nat} {f:Array Value->Array Value} {t':Nat} (I:Inv X pins σ H s) (hH:H l=some (.lst xs))
  (e:s.heap.get? l=some { cls:= .type "list",data:= .seq aL.toArray n }) (hf:f aL.toArray=its'.toArray) (hv:Vals ys its') (hz:ys.length<=sizeLine):
  Inv X pins σ (upd H l (.lst ys)) { s with heap:=s.heap.update l (Obj.mapSeq f),toks:=t' }:=by
 have q:=PySem.IsL.update e f
 rw[hf]at q
 refine I.write (x:=l) (e:=l) (by rw[hH];exact trivial) (.inl rfl) (fun b' u hb hu=>(Heap.get?_update_other s.heap (Obj.mapSeq f) (Ne.symm hb)).trans hu) ⟨_,q⟩ ?_
 exact ⟨hz,its',_,hv,q⟩
theorem Inv.P4 {aL:List Value} {t':Nat} (I:Inv X pins σ H s) (hv:Vals ys aL) (hz:ys.length<=sizeLine):
  Inv X pins σ (upd H s.heap.objs.size (.lst ys)) { s with heap:=s.heap.push { cls:= .type "list",data:= .seq aL.toArray },toks:=t' }:=
 I.laid (fun _ _ q=>Heap.get?_push_of_some _ q) (Nat.le_refl _) ⟨hz,aL,0,hv,Heap.get?_push_size _ rfl⟩
theorem Inv.fresh (I:Inv X pins σ H s):H s.heap.objs.size=none:=I.aX.fresh (Nat.le_refl _)
theorem Inv.pR (I:Inv X pins σ H s) (hH:H l=some (.lst xs)):xs.length<=sizeLine/\ ∃(aL:List Value) (n:Nat),Vals xs aL/\xs.length=aL.length/\s.heap.get? l=some { cls:= .type "list",data:= .seq aL.toArray n }:=by
 obtain ⟨z,aL,n,r,e⟩:=I.aX l _ hH
 exact ⟨z,aL,n,r,r.length,e⟩
theorem zJ {n:Nat} (h:n<=sizeLine):Builtin.List.listTooLong n=false:=by
 unfold Builtin.List.listTooLong
 exact decide_eq_false (by omega)
end
section
variable {X:Cx}
def CJ:V->List V->Hp->VK->Prop:=fun x vs H Q=> ∃l xs y,x= .ref l/\vs=[y]/\H l=some (.lst xs)/\xs.length<sizeLine/\Q .bY (upd H l (.lst (xs++[y])))
theorem dn:KG X "list.append" CJ:=by
 intro pins s σ H x vs v us Q I rx rv h
 obtain ⟨l,xs,y,rfl,rfl,hH,hz,q⟩:=h
 cases rx
 obtain ⟨u,rfl,ru⟩:=rv.one
 obtain ⟨z,aL,n,r,hl,e⟩:=I.pR hH
 refine call_meets F.slot_list_append ⟨_,e,rfl⟩ F.entry_list_append (F.args_list_append_2 _ _) (PySem.list_append l aL.toArray n u (by rw[List.size_toArray];omega)) ⟨e,?_⟩
 refine ⟨.bY,_,I.zI (its':=aL++[u]) hH e (by simp) (r.append (.cons ru .nil)) ?_,rfl,q⟩
 rw[List.length_append,List.length_singleton]
 omega
def CK:V->List V->Hp->VK->Prop:=fun x vs H Q=> ∃l b xs zs,x= .ref l/\vs=[.ref b]/\H l=some (.lst xs)/\H b=some (.lst zs)/\xs.length+zs.length<=sizeLine/\Q .bY (upd H l (.lst (xs++zs)))
theorem nX:KG X "list.extend" CK:=by
 intro pins s σ H x vs v us Q I rx rv h
 obtain ⟨l,b,xs,zs,rfl,rfl,hH,hB,hz,q⟩:=h
 cases rx
 obtain ⟨u,rfl,ru⟩:=rv.one
 cases ru
 obtain ⟨z,aL,n,r,hl,e⟩:=I.pR hH
 obtain ⟨z2,pK,n2,r2,jd,e2⟩:=I.pR hB
 have hsz:aL.toArray.size+pK.toArray.size<=sizeLine:=by rw[List.size_toArray,List.size_toArray];omega
 have KH: ¬(!aL.toArray.isEmpty&&Builtin.List.listTooLong (aL.toArray.size+pK.toArray.size))=true:=by
  rw[zJ hsz,Bool.and_false]
  exact Bool.false_ne_true
 refine call_meets F.slot_list_extend ⟨_,e,rfl⟩ F.entry_list_extend (F.args_list_extend_2 _ _)
  (AutoSeq1.list_extend_list_list_0 l aL.toArray n b pK.toArray n2 KH (by rw[List.size_toArray];omega) (by omega)) ⟨e,e2,?_⟩
 refine ⟨.bY,_,I.zI (its':=aL++pK) hH e (by simp) (r.append r2) ?_,rfl,q⟩
 rw[List.length_append]
 omega
def Gv:V->List V->Hp->VK->Prop:=fun x vs H Q=> ∃l xs i k y,x= .ref l/\vs=[.int i]/\H l=some (.lst xs)/\ -(2 ^ 63)<=i/\i<2 ^ 63/\seqIndex? i xs.length=some k/\xs[k]? =some y/\Q y (upd H l (.lst (xs.eraseIdx k)))
theorem hJ:KG X "list.pop" Gv:=by
 intro pins s σ H x vs v us Q I rx rv h
 obtain ⟨l,xs,i,k,y,rfl,rfl,hH,h1,h2,hk,hy,q⟩:=h
 cases rx
 obtain ⟨u,rfl,ru⟩:=rv.one
 obtain ⟨t,rfl⟩:=ru
 obtain ⟨z,aL,n,r,hl,e⟩:=I.pR hH
 obtain ⟨w,hw,wY⟩:=r.get hy
 refine call_meets F.slot_list_pop ⟨_,e,rfl⟩ F.entry_list_pop (F.args_list_pop_2 _ _)
  (MeetsSeq.list_pop_at l aL.toArray n i t k w (fitsIndex_both h1 h2) (by rw[List.size_toArray, <-hl];exact hk) (by rw[<-Array.getElem?_toList];exact hw) (by rw[List.size_toArray];omega)) ⟨e,?_⟩
 refine ⟨y,_,I.zI (its':=aL.eraseIdx k) hH e ?_ (r.eraseIdx k) ?_,wY,q⟩
 ·show aL.toArray.eraseIdxIfInBounds k=(aL.eraseIdx k).toArray
  rw[List.eraseIdxIfInBounds_toArray]
 ·have:=kr xs k
  omega
def P5:R2:=fun x y H Q=> ∃l b xs zs,x= .ref l/\y= .ref b/\H l=some (.lst xs)/\H b=some (.lst zs)/\xs.length+zs.length<=sizeLine/\ ∀p,H p=none->Q (.ref p) (upd H p (.lst (xs++zs)))
theorem hU:gc X (binaryOp .Add) P5:=by
 intro pins s σ H x y v u Q I rx ry h
 obtain ⟨l,b,xs,zs,rfl,rfl,hH,hB,hz,q⟩:=h
 cases rx
 cases ry
 obtain ⟨z,aL,n,r,hl,e⟩:=I.pR hH
 obtain ⟨z2,pK,n2,r2,jd,e2⟩:=I.pR hB
 refine PySem.P.add_list e e2 ?_ (by rw[List.size_toArray,List.size_toArray];omega)
 have ea:aL.toArray++pK.toArray=(aL++pK).toArray:=by simp
 rw[ea]
 exact ⟨.ref _,_,I.P4 (t':=s.toks) (r.append r2) (by rw[List.length_append];omega),rfl,q _ I.fresh⟩
end
section
variable {prog:Program} {w:World} {A:Around} {E:Value->Shared->Prop} {s:Shared}
end
section
variable {X:Cx}
end
end L2
namespace U6
open PySem PySem.W PySem.Calls PyProof.Rows
theorem lD {P:Params} {h:Heap}: ∀(ns:List Int) (vs:List Value),WellAll P h vs (ns.map WData.int)->IntsAre vs ns:=by
 intro ns
 induction ns with
 | nil=>
  intro vs w
  rw[List.map_nil]at w
  cases w
  exact .nil
 | cons n ns ih=>
  intro vs w
  rw[List.map_cons]at w
  cases w with
  | cons a b=>
   cases a
   exact .cons _ _ (ih _ b)
theorem xk {l:OpenLaw} {n:Nat} (hn:l.most=some n) {P:Params} {h:Heap} {args:List WData} {vals:List Value}
  (CL:l.row.toRowW.claim.pre args=true) (jr:WellAll P h vals args):
  ∃a vs ns,vals=[Value.ref a]/\args=[WData.list (ns.map WData.int)]/\h.get? a=some { cls:= .type "list",data:= .seq vs.toArray }/\IntsAre vs ns/\ns.length<=n:=by
 have Xn:WShape.hasAll [] args [.list .int]=true:=(pre_splitW CL).1
 have hc:l.pre.holds [] { args:=args }=true:=(pre_splitW CL).2
 obtain ⟨d,r,rfl,h1,h2⟩:=hasAllW_cons Xn
 obtain rfl:=hasAllW_nil h2
 obtain ⟨xs,rfl,h3⟩:=hasW_list h1
 obtain ⟨ns,rfl⟩:=items_int h3
 have hlen:ns.length<=n:=by
  unfold OpenLaw.pre at hc
  have h4:(WTm.not (.lt (.lit (.int (n:Int))) (.len (.arg 0)))).holds [] { args:=[.list (ns.map .int)] }=true:=by
   have h4:=(holds_andW hc).1
   rw[hn]at h4
   exact h4
  have h5:=condW_of h4 (w_not (w_lt w_lit (w_len_list (w_arg rfl))))
  rw[List.length_map]at h5
  refine Nat.le_of_not_lt fun q=>?_
  have q':(n:Int)<((ns.length:Nat):Int):=by omega
  first
   |(rw[decide_eq_true q']at h5;exact absurd h5 (by decide))
   |(simp at h5;omega)
 cases jr with
 | cons w1 w2=>
  cases w2
  cases w1 with
  | list ho fz=>exact ⟨_,_,ns,rfl,rfl,ho,lD ns _ fz,hlen⟩
theorem xl (l:OpenLaw) (args:List WData):l.row.toRowW.claim.post args (.bool true) args=true:=
 postW_of (r:=l.row.toRowW) (X:=(true==true))
  (show WShape.has [] (.bool true) .bool=true by first | rfl | decide | simp[WShape.has,WShape.arms,WShape.armsAll])
  (show (WTm.eq .res (.lit (.bool true))).value [] { args:=args,res:=some (.bool true),after:=args }=some (.bool (true==true)) from w_eq_bool (w_res rfl) w_lit) rfl
theorem qW {l:OpenLaw} {n:Nat} {q:Program} {loose:List Str} {XP:(Str->Option Value)->Heap->Prop} {YP:World->Heap->Prop} {d:DefRec}
  (hn:l.most=some n) (KJ:d.params.defaults=[])
  (call: ∀(w:World) (s₀ s₁:Shared) (mg mb:Str->Option Value) (fa:Addr) (o:Obj) (pm cd doc:Value) (a:Addr) (vs:List Value) (ns:List Int),
   Ground q loose [] XP w s₀ mg mb s₁.heap->YP w s₁.heap->
   s₁.heap.get? fa=some o->o.data= .func (docDef d.name d.params d.body d.scope pm cd doc)->s₁.heap.CodeRec cd d.name->mg d.name=some (.ref fa)->
   s₁.heap.get? a=some { cls:= .type "list",data:= .seq vs.toArray }->IntsAre vs ns->ns.length<=n->s₁.gens= #[]->
   codeAny (model l.prog w) callerA (.call (.ref fa) ⟨[.ref a],[]⟩) (fun r s'=>r= .ok (.ret (.bool true))/\OldK s₁.heap s'.heap/\s'.os=s₁.os/\AllBare s'.gens) s₁):
  WalkO q loose XP YP l.row.toRowW d [] (fun f vs=>PySem.call f vs):=by
 intro w s₀ s₁ mg mb G Y fa o pm cd doc dV kV ho hd nM hD hmg hg args vals as CL Xo hrd jr y_
 obtain rfl:dV= .none:=Dflts.none hD KJ
 obtain rfl:kV= .none:=Dflts.noKw hD
 obtain ⟨a,vs,ns,rfl,rfl,Gw,hints,hlen⟩:=xk hn CL jr
 refine enter_call (codeAny_mono (call w s₀ s₁ mg mb fa o pm cd doc a vs ns G Y ho (fd_plain hd) nM hmg Gw hints hlen hg) fun r s' hq=>?_)
 obtain ⟨rfl,h2,h3,h4⟩:=hq
 exact ⟨.inl ⟨.bool true, .bool true,[],rfl,fun _=>rfl, .bool true,xl l _,fun _=>⟨List.Pairwise.nil,fun _ hm=>(nomatch hm)⟩⟩,h2,h3,h4⟩
section
variable {prog:Program} {w:World} {A:Around} {E:Value->Shared->Prop} {s:Shared} {K:Frag}
end
end U6
namespace L2
open PySem PySem.Spec PyProof.Rows
theorem nY: ∀{vs:List Value} {ns:List Int},IntsAre vs ns->Vals (ns.map V.int) vs
 | _,_, .nil=> .nil
 | _,_, .cons n t h=> .cons ⟨t,rfl⟩ (nY h)
def Gx (H:Hp):Prop:= ∀b,H b=none\/ ∃o xs,H b=some (.tT o (.lst xs))
theorem zK {P:Program} {w:World} {K:PySem.W.Frag} {mg mb:Str->Option Value} {CX:vC} {k:Nat} {fa a:Addr} {fd:FuncData} {x:Str} {sp:Sp} {s₁:Shared} {vs:List Value} {ns:List Int}
  (KX:K.In s₁.heap) (CM:s₁.heap.Ns mainGlobals mg) (hb:s₁.heap.Ns builtinsNs mb) (ET: ∀x:Str,x≠"__name__"->mb x=bootBuiltins x) (P6:s₁.heap.NoLimit) (hg:s₁.gens= #[])
  (ha:s₁.heap.get? a=some { cls:= .type "list",data:= .seq vs.toArray }) (hi:IntsAre vs ns) (hl:ns.length<=sizeLine) (hr:dA k callerA)
  (F: ∀base:Heap,K.In base->base.Ns mainGlobals mg->cD P w K mg base CX k fa fd [x] sp) (KL: ∀(s:Shared) (u:Value),BindsTo s fd ⟨[u],[]⟩ [(x,u)])
  (B9: ∀H:Hp,Gx H->aJ K H a (ns.map V.int)->sp [.ref a] H (fun v _=>v= .bl true) fun _ _ _=>False)
  (P7: ∀H e s',CX [] H s₁ (fun _ _ _=>False) e s'->False):
  codeAny (model P w) callerA (.call (.ref fa) ⟨[.ref a],[]⟩) (fun r s'=>r= .ok (.ret (.bool true))/\OldK s₁.heap s'.heap/\s'.os=s₁.os/\AllBare s'.gens) s₁:=by
 have rv:=nY hi
 have P8:=hi.length
 -- from an abstract heap in U7 nothing but Cy script may be tracked
 have core: ∀H:Hp,Gx H->aJ K H a (ns.map V.int)->gD P w H s₁.heap->(∀b,H b≠none->b=a)->(H a≠none->K.lookup a=none)->
   codeAny (model P w) callerA (.call (.ref fa) ⟨[.ref a],[]⟩) (fun r s'=>r= .ok (.ret (.bool true))/\OldK s₁.heap s'.heap/\s'.os=s₁.os/\AllBare s'.gens) s₁:=by
  intro H hO hS aX hA hK
  have vH: ∀{b:Addr} {o:Obj},s₁.heap.get? b=some o->H b=none->(pI s₁.heap H).get? b=some o:=fun e n=>zw e n
  have Ku: ∀{b:Addr} {o:Obj} {es:Array DictEntry} {ep:Nat},s₁.heap.get? b=some o->o.data= .dict es ep->H b=none:=fun {b o es ep} e d=>by
   cases q:H b with
   | none=>rfl
   | some u=>
    have e':b=a:=hA b (by rw[q];simp)
    subst e'
    rw[ha]at e;cases e
    have d':Data.seq vs.toArray _=Data.dict es ep:=d
    cases d'
  have NP: ∀{b:Addr} {m:Str->Option Value},s₁.heap.Ns b m->(pI s₁.heap H).Ns b m:=fun {b m} ⟨o,es,ep,e,d,r⟩=>⟨o,es,ep,vH e (Ku e d),d,r⟩
  have U8:K.In (pI s₁.heap H):=fun b o e=>vH (KX b o e) (by
   cases q:H b with
   | none=>rfl
   | some u=>
    have e':b=a:=hA b (by rw[q];simp)
    subst e'
    rw[hK (by rw[q];simp)]at e;cases e)
  have hM:Mod K mg (pI s₁.heap H):=⟨U8,NP CM,⟨mb,NP hb,ET⟩,let ⟨mc,h1,h2⟩:=P6;⟨mc,NP h1,h2⟩⟩
  have e0:qO P w K mg (pI s₁.heap H) callerA [] s₁ H:=⟨rfl,hM,fun b o e=>Cs e,Nat.le_of_eq (wV _ _),trivial,fun b hb=>absurd (show b∈([]:List Addr) from hb) (by simp),aX, .of_eq hg⟩
  refine codeAny_mono ((F _ U8 (NP CM)).run callerA [] s₁ H ⟨[.ref a],[]⟩ [.ref a] [.ref a] _ _ hr e0 (KL s₁ (.ref a)) (.cons rfl .nil) (B9 H hO hS)) fun r s' h=>?_
  cases r with
  | error e=>exact (P7 H e s' h).elim
  | ok fl=>
   cases fl with
   | next=>exact False.elim h
   | brk=>exact False.elim h
   | cont=>exact False.elim h
   | ret u=>
    obtain ⟨v,H',os,bare,un,P9,r',q⟩:=h
    have q':v= .bl true:=q
    subst q'
    obtain rfl:u=Value.bool true:=r'
    refine ⟨rfl,OldK.of_keep fun b o e=>?_,os,bare⟩
    cases q:H b with
    | none=>exact un.keep b o e q (by intro z;exact absurd (show b∈([]:List Addr) from z) (by simp)) (by simp)
    | some u=>
     rcases hO b with z | ⟨ob,xs,z⟩
     ·rw[q]at z;cases z
     ·have z2:=un.i8 b ob _ z
      obtain ⟨e1,_⟩:=aX b _ z
      obtain ⟨e2,_⟩:=P9 b _ z2
      rw[e]at e1;cases e1
      exact e2
 cases hk:K.lookup a with
 | some o=>
  -- Cy script is one of Cy zH own objects
  have e:=KX a o hk
  rw[ha]at e
  cases e
  refine core (fun _=>none) (fun _=> .inl rfl) (.inr ⟨_,vs.toArray,_,hk,rfl,rfl,rfl,by rw[List.size_toArray,P8];exact hl,by simpa using rv⟩) (fun b u z=>by have z':(none:Option HO)=some u:=z;cases z') (fun b z=>absurd rfl z) fun z=>absurd rfl z
 | none=>
  refine core (fun b=>if b=a then some (.tT { cls:= .type "list",data:= .seq vs.toArray } (.lst (ns.map V.int))) else none) (fun b=>?_) (.inl (.inr ⟨{ cls:= .type "list",data:= .seq vs.toArray },if_pos rfl⟩)) (fun b u z=>?_) (fun b z=>?_) fun _=>hk
  ·by_cases hb:b=a
   ·exact .inr ⟨_,_,if_pos hb⟩
   ·exact .inl (if_neg hb)
  ·by_cases hb:b=a
   ·have z':=(if_pos hb).symm.trans z
    cases z'
    subst hb
    exact ⟨ha,by rw[List.length_map];exact hl,vs,_,rv,ha⟩
   ·have z':=(if_neg hb).symm.trans z
    cases z'
  ·by_cases hb:b=a
   ·exact hb
   ·exact absurd (if_neg hb) z
end L2
namespace L2
open PySem PySem.Spec PyProof.Rows
noncomputable abbrev U9 {K:PySem.W.Frag} {h:Heap} (_:K.In h):PySem.W.Frag:=K
theorem vI {l:PySem.W.OpenLaw} {n k:Nat} {q:Program} {loose:List Str} {XP:(Str->Option Value)->Heap->Prop} {YP:World->Heap->Prop} {d:DefRec} {K:Params->PySem.W.Frag} {CX:World->vC} {sp:World->Sp} {x:Str}
  (hn:l.most=some n) (U_:n<=sizeLine) (KJ:d.params.defaults=[]) (hr:dA k callerA)
  (hY: ∀(w:World) (h:Heap),YP w h->(K w.params).In h)
  (F: ∀(w:World) (mg:Str->Option Value) (fa:Addr) (h:Heap),(K w.params).In h->h.Ns mainGlobals mg->mg d.name=some (.ref fa)->
   ∃fd:FuncData,(∀(s:Shared) (u:Value),BindsTo s fd ⟨[u],[]⟩ [(x,u)])/\
    ∀base:Heap,(K w.params).In base->base.Ns mainGlobals mg->cD l.prog w (K w.params) mg base (CX w) k fa fd [x] (sp w))
  (B9: ∀(w:World) (H:Hp) (a:Addr) (ns:List Int),ns.length<=n->Gx H->aJ (K w.params) H a (ns.map V.int)->sp w [.ref a] H (fun v _=>v= .bl true) fun _ _ _=>False)
  (P7: ∀(w:World) (H:Hp) (s:Shared) (e:Value) (s':Shared),CX w [] H s (fun _ _ _=>False) e s'->False):
  PySem.W.WalkO q loose XP YP l.row.toRowW d [] (fun f vs=>PySem.call f vs):=by
 refine U6.qW hn KJ fun w s₀ s₁ mg mb fa o pm cd doc a vs ns G Y ho hd nM hmg Gw hints hlen hg=>?_
 have KX:=hY w _ Y
 obtain ⟨fd,hb,hF⟩:=F w mg fa _ KX G.T.g hmg
 exact zK KX G.T.g G.T.b G.T.builtins G.T.nolimit hg Gw hints (Nat.le_trans hlen U_) hr hF hb (fun H hO hS=>B9 w H a ns hlen hO hS) fun H e s'=>P7 w H s₁ e s'
end L2
namespace L2
open PySem PySem.Spec PyProof.Rows
noncomputable def bf (s:Stmt):Arguments:=match s with
 | .FunctionDef _ a _ _ _ _ _ _ _ _=>a
 | _=>{ posonlyargs:=[],args:=[],vararg:=none,kwonlyargs:=[],kw_defaults:=[],kwarg:=none,defaults:=[] }
noncomputable def aZ (s:Stmt):List Stmt:=match s with
 | .FunctionDef _ _ b _ _ _ _ _ _ _=>b
 | _=>[]
noncomputable def ar (s:Stmt):Scope:=match s with
 | .FunctionDef _ _ _ _ _ _ sc _ _ _=>sc
 | _=>{ kind:= .function,names:=[],isGenerator:=false,isCoroutine:=false }
abbrev iK:vC:=fun _ _ _ _ _ _=>False
abbrev E0:XK:=fun _ _ _=>False
theorem aR {X:Cx}:Passes iK X E0:=fun _ _ _ _ _ _ _ h=>h.elim
structure CN (K:PySem.W.Frag) (x qual:Str) (st:Stmt) (f:Addr) (fd:FuncData):Prop where
 ex: ∃(oc:Value) (od:Option Addr) (kV doc pm:Value) (an:Option Addr) (dS ct:Value) (vD:Array (Option Value)),
  fd=PySem.W.fnOf x qual (bf st) (aZ st) (ar st) .none kV doc pm an dS ct/\K.lookup f=some ⟨oc,od, .func fd,vD⟩/\PySem.W.codeIn K dS qual=true
 kp:PySem.W.keepIn K (.ref f)=true
section
variable {P:Program} {w:World} {K:PySem.W.Frag} {mg:Str->Option Value} {base:Heap}
theorem CN.ok {x qual:Str} {st:Stmt} {f:Addr} {fd:FuncData} {N ps:List Str} {k:Nat} {sp:Sp} (F:CN K x qual st f fd) (S:bc N ps (ar st)) (len: ∀vs H Q E,sp vs H Q E->vs.length=ps.length)
  (qR: ∀(dS:Value) (A:Around) (outer:List Env) (s:Shared) (H:Hp) (vs:List V) (Q:VK) (E:XK),dA k (A.deeper (envOfC qual (ar st) s.heap.objs.size f dS))->sp vs H Q E->
   ∃t,qM (qP iK P w K mg base N qual (ar st) f dS A outer s H E).NJ (aZ st) t/\t { nx:=fun _ H'=>Q .bY H',rt:=Q } (start N vs) H):cD P w K mg base iK (k+1) f fd ps sp:=by
 obtain ⟨oc,od,kV,doc,pm,an,dS,ct,vD,rfl,lk,nM⟩:=F.ex
 refine ER lk nM S len fun A outer s H vs Q E hr B9=>?_
 obtain ⟨t,h,q⟩:=qR dS A outer s H vs Q E hr B9
 exact ⟨t,h.NJ,q⟩
theorem CN.binds {x qual:Str} {st:Stmt} {f:Addr} {fd:FuncData} {ps:List Str} (F:CN K x qual st f fd)
  (h: ∀(kV doc pm:Value) (an:Option Addr) (dS ct:Value) (us:List Value),us.length=ps.length->bindArgs (PySem.W.fnOf x qual (bf st) (aZ st) (ar st) .none kV doc pm an dS ct) ⟨us,[]⟩=pure (ps.zip us)):Binds K fd ps []:=by
 obtain ⟨oc,od,kV,doc,pm,an,dS,ct,vD,rfl,lk,nM⟩:=F.ex
 exact .all (h kV doc pm an dS ct)
theorem bC {x qual:Str} {st:Stmt} {f:Addr} {oc:Value} {od an:Option Addr} {vD:Array (Option Value)} {kV doc pm dS ct:Value} (l:K.lookup f=some ⟨oc,od, .func (PySem.W.fnOf x qual (bf st) (aZ st) (ar st) .none kV doc pm an dS ct),vD⟩)
  (c:PySem.W.codeIn K dS qual=true) (k:PySem.W.keepIn K (.ref f)=true):CN K x qual st f (PySem.W.fnOf x qual (bf st) (aZ st) (ar st) .none kV doc pm an dS ct):=⟨⟨oc,od,kV,doc,pm,an,dS,ct,vD,rfl,l,c⟩,k⟩
end
theorem cH {A:Around} {k:Nat} (hr:dA k A):A.units+1<cLine:=Nat.lt_of_le_of_lt (Nat.add_le_add_left (by decide:1<=64) _) hr.units
theorem xm {n:Nat} (h:n<=1000):n<sizeLine:=Nat.lt_of_le_of_lt h (by decide)
section
variable {X:Cx}
theorem pv (i:Nat) {x:Str} {pos:Pos} (hN:X.N[i]? =some x:=by rfl) (hv:NH X.env.scope x:=by first | exact Or.inl rfl | exact Or.inr (Or.inl rfl) | exact Or.inr (Or.inr rfl)) (hd:(x==("__debug__":Str))=false:=by decide)
  (nM:(x==("__classdict__":Str))=false:=by decide):PE X (.Name x pos) (zy i):=FR hN hv hd nM
end
theorem pS {A B:Prop} (h:B):if false=true then A else B:=by
 rw[if_neg Bool.false_ne_true]
 exact h
theorem P_ {A B:Prop} (h:A):if true=true then A else B:=by
 rw[if_pos rfl]
 exact h
theorem eu {c A B:Prop} [Decidable c] (h1:c->A) (h2: ¬c->B):if c then A else B:=by
 by_cases h:c
 ·rw[if_pos h]
  exact h1 h
 ·rw[if_neg h]
  exact h2 h
def ai (H H':Hp):Prop:= ∀b o,H b=some o->H' b=some o
theorem ai.refl (H:Hp):ai H H:=fun _ _ h=>h
theorem ai.trans {H H1 H2:Hp} (a:ai H H1) (b:ai H1 H2):ai H H2:=fun c o h=>b c o (a c o h)
theorem ai.free {H H':Hp} (e:ai H H') {l:Addr} (h:H' l=Option.none):H l=Option.none:=by
 cases q:H l with
 | none=>rfl
 | some o=>
  rw[e l o q]at h
  cases h
theorem ai.seq {K:PySem.W.Frag} {H H':Hp} {a:Addr} {xs:List V} (e:ai H H') (h:aJ K H a xs):aJ K H' a xs:=by
 rcases h with (h | ⟨o,h⟩) | h
 ·exact .inl (.inl (e _ _ h))
 ·exact .inl (.inr ⟨o,e _ _ h⟩)
 ·exact .inr h
end L2
namespace L2
open PySem PySem.Spec PyProof.Rows
noncomputable def gP (env:Env):List (Str×NameKind)->List (Str×Addr)->List (Str×Addr)
 | [],acc=>acc
 |(n,k)::r,acc=>gP env r (if k== .free then (match env.cells.lookup n with | some a=>(n,a)::acc | none=>acc) else acc)
theorem eX {env:Env}: ∀(names:List (Str×NameKind)) (acc:List (Str×Addr)),(∀y∈names,y.2= .free-> ∃c,env.cells.lookup y.1=some c)->
  (forIn names acc fun (x:Str×NameKind) (cs:List (Str×Addr))=>(if (x.2==NameKind.free)=true then do let a <-cellOf env x.1;pure (ForInStep.yield ((x.1,a)::cs)) else pure (ForInStep.yield cs):Sem (ForInStep (List (Str×Addr)))))=pure (gP env names acc)
 | [],acc,_=>rfl
 |(n,k)::r,acc,h=>by
  rw[List.forIn_cons]
  have hr: ∀y∈r,y.2= .free-> ∃c,env.cells.lookup y.1=some c:=fun y hy=>h y (List.mem_cons_of_mem _ hy)
  cases hk:(k==NameKind.free) with
  | false=>
   have e1:gP env ((n,k)::r) acc=gP env r acc:=by
    show gP env r (if (k==NameKind.free)=true then (match env.cells.lookup n with | some a=>(n,a)::acc | none=>acc) else acc)=_
    rw[hk,if_neg Bool.false_ne_true]
   rw[e1, <-eX r acc hr]
   simp only[hk,Bool.false_eq_true,if_false,pure_bind]
  | true=>
   obtain ⟨c,hc⟩:=h (n,k) List.mem_cons_self (by simpa using hk)
   have e1:gP env ((n,k)::r) acc=gP env r ((n,c)::acc):=by
    have wX:env.cells.lookup n=some c:=hc
    show gP env r (if (k==NameKind.free)=true then (match env.cells.lookup n with | some a=>(n,a)::acc | none=>acc) else acc)=_
    rw[hk,wX,if_pos rfl]
   have e2:cellOf env n=pure c:=by
    have wX:env.cells.lookup n=some c:=hc
    unfold cellOf
    rw[wX]
   rw[e1, <-eX r ((n,c)::acc) hr]
   simp only[hk,if_true,e2,pure_bind]
theorem je {scope:Scope} {env:Env} (h: ∀y∈scope.names,y.2= .free-> ∃c,env.cells.lookup y.1=some c):closureFor scope env=pure (gP env scope.names []):=by
 have e:=eX scope.names [] h
 simp only[closureFor]
 rw[e]
 rfl
theorem kx {env:Env} {x:Str} {c:Addr}: ∀(names:List (Str×NameKind)) (acc:List (Str×Addr)),(∀y d,acc.lookup y=some d->env.cells.lookup y=some d)->(gP env names acc).lookup x=some c->env.cells.lookup x=some c
 | [],acc,ha,h=>ha x c h
 |(n,k)::r,acc,ha,h=>by
  refine kx r _ (fun y d q=>?_) h
  by_cases hk:(k==NameKind.free)=true
  ·rw[if_pos hk]at q
   cases e:env.cells.lookup n with
   | none=>rw[e]at q;exact ha y d q
   | some a=>
    rw[e]at q
    have q':List.lookup y ((n,a)::acc)=some d:=q
    rw[List.lookup_cons]at q'
    cases hy:(y==n) with
    | true=>
     rw[hy]at q'
     have:y=n:=by simpa using hy
     subst this
     rw[e];exact q'
    | false=>rw[hy]at q';exact ha y d q'
  ·rw[if_neg hk]at q;exact ha y d q
theorem qX {env:Env} {x:Str}: ∀(names:List (Str×NameKind)) (acc:List (Str×Addr)),(∃c,acc.lookup x=some c)-> ∃c,(gP env names acc).lookup x=some c
 | [],acc,h=>h
 |(n,k)::r,acc,⟨c,hc⟩=>by
  refine qX r _ ?_
  by_cases hk:(k==NameKind.free)=true
  ·rw[if_pos hk]
   cases e:env.cells.lookup n with
   | none=>exact ⟨c,hc⟩
   | some a=>
    show ∃c,List.lookup x ((n,a)::acc)=some c
    rw[List.lookup_cons]
    cases hy:(x==n) with
    | true=>exact ⟨a,rfl⟩
    | false=>exact ⟨c,hc⟩
  ·rw[if_neg hk];exact ⟨c,hc⟩
theorem lY {env:Env} {x:Str}: ∀(names:List (Str×NameKind)) (acc:List (Str×Addr)),(∀y∈names,y.2= .free-> ∃c,env.cells.lookup y.1=some c)->names.lookup x=some .free-> ∃c,(gP env names acc).lookup x=some c
 | [],acc,_,h=>by simp at h
 |(n,k)::r,acc,hf,h=>by
  have hr: ∀y∈r,y.2= .free-> ∃c,env.cells.lookup y.1=some c:=fun y hy=>hf y (List.mem_cons_of_mem _ hy)
  rw[List.lookup_cons]at h
  cases hy:(x==n) with
  | true=>
   rw[hy]at h
   have hk:k= .free:=Option.some.inj h
   subst hk
   have hx:x=n:=by simpa using hy
   subst hx
   obtain ⟨c,hc⟩:=hf (x, .free) List.mem_cons_self rfl
   have wX:env.cells.lookup x=some c:=hc
   refine qX r _ ⟨c,?_⟩
   rw[if_pos (show (NameKind.free==NameKind.free)=true by decide),wX]
   show List.lookup x ((x,c)::acc)=some c
   rw[List.lookup_cons]
   simp
  | false=>
   rw[hy]at h
   exact lY r _ hr h
theorem jN {env:Env}: ∀{names:List (Str×NameKind)} {x:Str},names.lookup x=some .free->
  ((names.map fun (n,k)=>if (k==NameKind.free&&env.scope.kind== .function&&env.kindOf n==some .cell) then (n,NameKind.cell) else (n,k)).lookup x=some .cell\/
   (names.map fun (n,k)=>if (k==NameKind.free&&env.scope.kind== .function&&env.kindOf n==some .cell) then (n,NameKind.cell) else (n,k)).lookup x=some .free)
 | [],_,h=>by simp at h
 |(n,k)::r,x,h=>by
  have ih:= @jN env r x
  show (List.lookup x ((if (k==NameKind.free&&env.scope.kind== .function&&env.kindOf n==some .cell)=true then (n,NameKind.cell) else (n,k))::_)=_\/List.lookup x ((if (k==NameKind.free&&env.scope.kind== .function&&env.kindOf n==some .cell)=true then (n,NameKind.cell) else (n,k))::_)=_)
  cases hx:x==n with
  | true=>
   simp only[List.lookup_cons,hx]at h
   cases h
   by_cases hc:((NameKind.free==NameKind.free)&&env.scope.kind== .function&&env.kindOf n==some .cell)=true
   ·rw[if_pos hc];simp[List.lookup_cons,hx]
   ·rw[if_neg hc];simp[List.lookup_cons,hx]
  | false=>
   simp only[List.lookup_cons,hx]at h
   by_cases hc:(k==NameKind.free&&env.scope.kind== .function&&env.kindOf n==some .cell)=true
   ·rw[if_pos hc];simp only[List.lookup_cons,hx];exact ih h
   ·rw[if_neg hc];simp only[List.lookup_cons,hx];exact ih h
theorem jO {env:Env}: ∀{names:List (Str×NameKind)} {x:Str},(∀y∈names,y.2≠ .cell)->
  ((names.map fun (n,k)=>if (k==NameKind.free&&env.scope.kind== .function&&env.kindOf n==some .cell) then (n,NameKind.cell) else (n,k)).lookup x=some .cell\/
   (names.map fun (n,k)=>if (k==NameKind.free&&env.scope.kind== .function&&env.kindOf n==some .cell) then (n,NameKind.cell) else (n,k)).lookup x=some .free)->names.lookup x=some .free
 | [],_,_,h=>by simp at h
 |(n,k)::r,x,hn,h=>by
  have ih:= @jO env r x (fun y hy=>hn y (List.mem_cons_of_mem _ hy))
  have hk:=hn (n,k) List.mem_cons_self
  have h':(List.lookup x ((if (k==NameKind.free&&env.scope.kind== .function&&env.kindOf n==some .cell)=true then (n,NameKind.cell) else (n,k))::(r.map fun (n,k)=>if (k==NameKind.free&&env.scope.kind== .function&&env.kindOf n==some .cell) then (n,NameKind.cell) else (n,k)))=some .cell\/List.lookup x ((if (k==NameKind.free&&env.scope.kind== .function&&env.kindOf n==some .cell)=true then (n,NameKind.cell) else (n,k))::(r.map fun (n,k)=>if (k==NameKind.free&&env.scope.kind== .function&&env.kindOf n==some .cell) then (n,NameKind.cell) else (n,k)))=some .free):=h
  cases hx:x==n with
  | true=>
   rw[List.lookup_cons,hx]
   by_cases hc:(k==NameKind.free&&env.scope.kind== .function&&env.kindOf n==some .cell)=true
   ·have:(k==NameKind.free)=true:=by
     rw[Bool.and_eq_true,Bool.and_eq_true]at hc;exact hc.1.1
    have Xt:k= .free:=by simpa using this
    rw[Xt]
   ·rw[if_neg hc]at h'
    simp only[List.lookup_cons,hx]at h'
    rcases h' with h' | h'
    ·exact absurd (Option.some.inj h') hk
    ·exact h'
  | false=>
   rw[List.lookup_cons,hx]
   by_cases hc:(k==NameKind.free&&env.scope.kind== .function&&env.kindOf n==some .cell)=true
   ·rw[if_pos hc]at h';simp only[List.lookup_cons,hx]at h';exact ih h'
   ·rw[if_neg hc]at h';simp only[List.lookup_cons,hx]at h';exact ih h'
abbrev Ca:Value->Shared->Prop:=fun _ _=>False
theorem pU {prog:Program} {w:World} {A:Around} {R:Result->Shared->Prop} {s:Shared} {elt target iter:Expr} {ifs:List Expr} {scope:Scope} {pos:Pos} {it acc:Value} {env:Env} (I:Nat->Shared->Prop)
  (turn: ∀n s,I n s->wpAny (model prog w) A (pyNext it) (fun r s₁=>match r with
   | none=>R (.ok .next) s₁
   | some v=>wpAny (model prog w) A (letOwnedTupleGo target it v) (fun _ Ve=>wpAny (model prog w) A (assign target env v) (fun _ s₂=>
     wpAny (model prog w) A (forIn ifs true fun c r=>if r=true then do let ok <-isTrue c env (eval c env);pure (ForInStep.yield ok) else pure (ForInStep.yield r)) (fun ok s₃=>
      if ok=true then wpAny (model prog w) A (eval elt env) (fun x s₄=>
       wpAny (model prog w) A (call (.builtin "list.append") [acc,x]) (fun _ s₅=> ∃m,m<n/\I m s₅) Ca s₄) Ca s₃
      else ∃m,m<n/\I m s₃) Ca s₂) Ca Ve) Ca s₁) Ca s)
  (n:Nat) (h:I n s):codeAny (model prog w) A (.compLoop (.ListComp elt [⟨target,iter,ifs,0⟩] scope pos) 0 it acc env) R s:=by
 refine codeAny_loop rfl I (fun n s hI=>?_) n h
 show wpAny _ A ((compTurn (.ListComp elt [⟨target,iter,ifs,0⟩] scope pos) 0 it acc env).onRaise (fun x=>do noteFrame x env;theTreesLotGoes x)) _ _ s
 refine wpAny_noted ?_
 rw[compTurn_list]
 have no: ∀{F:Value->Shared->Prop} (e:Value) (s':Shared),Ca e s'->F e s':=fun _ _ h=>h.elim
 refine wpAny_bind (wpAny_standAt (wpAny_bind (wpAny_mono (turn n s hI) (fun r s₁ h₁=>?_) no)))
 cases r with
 | none=>exact wpAny_pure h₁
 | some v=>
  refine wpAny_bind (wpAny_mono h₁ (fun _ Ve Xu=>?_) no)
  refine wpAny_bind (wpAny_mono Xu (fun _ s₂ h₂=>wpAny_bind (wpAny_mono h₂ (fun ok s₃ h₃=>?_) no)) no)
  cases ok with
  | false=>exact wpAny_pure ⟨rfl,h₃⟩
  | true=>
   exact wpAny_bind (wpAny_bind (wpAny_mono h₃ (fun x s₄ h₄=>wpAny_bind (wpAny_mono h₄ (fun _ s₅ h₅=>wpAny_pure (wpAny_pure ⟨rfl,h₅⟩)) no)) no))
noncomputable def bK (X:Cx) (scope:Scope) (C:Addr) (Nc:List Str) (s:Shared) (H:Hp) (fp:List Addr):Cx where
 prog:=X.prog
 w:=X.w
 K:=X.K
 mg:=X.mg
 base:=X.base
 A:=X.A
 N:=Nc
 s₀:=s
 H₀:=H
 env:=compEnvC scope (gP X.env scope.names []) C X.env
 outer:=X.stack
 stack:=X.stack
 ex:=fp
 fn:=fun _=>false
 calm:=X.calm
 pn:=[]
 xe:=Ca
def i_ (X:Cx) (scope:Scope):List Str->List (Option Nat)->Prop
 | [],[]=>True
 | _::ys,none::os=>i_ X scope ys os
 | y::ys,some j::os=>(X.N[j]? =some y/\scope.names.lookup y=some .free/\(X.env.kindOf y=some .cell\/X.env.kindOf y=some .free))/\i_ X scope ys os
 | _,_=>False
noncomputable def jP (σ:St) (ix:List (Option Nat)):St:=ix.map fun o=>match o with | none=>none | some j=>(σ[j]?).getD none
def Wk:St->St->Prop
 | [],[]=>True
 | none::a,_::b=>Wk a b
 | some v::a,w::b=>w=some v/\Wk a b
 | _,_=>False
theorem Wk.len: ∀{a b:St},Wk a b->a.length=b.length
 | [],[],_=>rfl
 | none::a,_::b,h=>congrArg (· +1) (Wk.len (a:=a) (b:=b) h)
 | some _::a,_::b,h=>congrArg (· +1) (Wk.len (a:=a) (b:=b) h.2)
theorem Wk.get: ∀{a b:St} {i:Nat} {v:V},Wk a b->a[i]? =some (some v)->b[i]? =some (some v)
 | [],[],i,v,_,h=>by simp at h
 | none::a,x::b,0,v,_,h=>by simp at h
 | none::a,x::b,i+1,v,k,h=>by
  have:=Wk.get (a:=a) (b:=b) (i:=i) (v:=v) k (by simpa using h)
  simpa using this
 | some y::a,x::b,0,v,k,h=>by
  have e:y=v:=by simpa using h
  subst e
  simp[k.1]
 | some y::a,x::b,i+1,v,k,h=>by
  have:=Wk.get (a:=a) (b:=b) (i:=i) (v:=v) k.2 (by simpa using h)
  simpa using this
theorem i_.len {X:Cx} {scope:Scope}: ∀{N:List Str} {ix:List (Option Nat)},i_ X scope N ix->ix.length=N.length
 | [],[],_=>rfl
 | _::ys,none::os,h=>congrArg (· +1) (i_.len (N:=ys) (ix:=os) h)
 | _::ys,some _::os,h=>congrArg (· +1) (i_.len (N:=ys) (ix:=os) h.2)
theorem i_.get {X:Cx} {scope:Scope}: ∀{N:List Str} {ix:List (Option Nat)} {i j:Nat},i_ X scope N ix->ix[i]? =some (some j)-> ∃y,N[i]? =some y/\X.N[j]? =some y/\scope.names.lookup y=some .free/\(X.env.kindOf y=some .cell\/X.env.kindOf y=some .free)
 | [],[],i,j,_,h=>by simp at h
 | y::ys,none::os,0,j,_,h=>by simp at h
 | y::ys,none::os,i+1,j,k,h=>by
  obtain ⟨z,h1,h2⟩:=i_.get (N:=ys) (ix:=os) (i:=i) (j:=j) k (by simpa using h)
  exact ⟨z,by simpa using h1,h2⟩
 | y::ys,some j'::os,0,j,k,h=>by
  have e:j'=j:=by simpa using h
  subst e
  exact ⟨y,by simp,k.1⟩
 | y::ys,some j'::os,i+1,j,k,h=>by
  obtain ⟨z,h1,h2⟩:=i_.get (N:=ys) (ix:=os) (i:=i) (j:=j) k.2 (by simpa using h)
  exact ⟨z,by simpa using h1,h2⟩
theorem xn {σ:St} {ix:List (Option Nat)} {i:Nat} {v:V} (h:(jP σ ix)[i]? =some (some v)): ∃j,ix[i]? =some (some j)/\σ[j]? =some (some v):=by
 unfold jP at h
 rw[List.getElem?_map]at h
 cases e:ix[i]? with
 | none=>rw[e]at h;cases h
 | some o=>
  rw[e]at h
  cases o with
  | none=>cases h
  | some j=>
   refine ⟨j,rfl,?_⟩
   have h':some ((σ[j]?).getD none)=some (some v):=h
   cases q:σ[j]? with
   | none=>rw[q]at h';cases h'
   | some z=>rw[q]at h';cases h';rfl
end L2
namespace L2
open PySem PySem.Spec PyProof.Rows
theorem uj {X:Cx} {pins:List (Addr×Obj)} {σ:St} {H:Hp} {s:Shared} (I:Inv X pins σ H s) {scope:Scope} {Nc:List Str} {ix:List (Option Nat)} (uk:i_ X scope Nc ix) (gU: ∀y∈scope.names,y.2≠ .cell)
  (gL:scope.kind= .function) (lE: ∀y∈scope.names,y.2= .free->X.env.kindOf y.1=some .cell\/X.env.kindOf y.1=some .free) {fp:List Addr} (hf: ∀b∈fp,km X pins H b) (KN: ∀b∈fp, ∃o,s.heap.get? b=some o)
  {C:Addr} {h':Heap} {t':Nat} {m0:Str->Option Value} (hC:s.heap.objs.size<=C) (CM:h'.Ns C m0) (k: ∀b o,s.heap.get? b=some o->h'.get? b=some o):
  Inv (bK X scope C Nc s H fp) [] (jP σ ix) H { s with heap:=h',toks:=t' }:=by
 have Jy: ∀y∈scope.names,y.2= .free-> ∃c,X.env.cells.lookup y.1=some c:=fun y hy e=>I.ok.has y.1 (lE y hy e)
 have jQ: ∀{x:Str} {c:Addr},(gP X.env scope.names []).lookup x=some c->X.env.cells.lookup x=some c:=fun {x c} e=>kx scope.names [] (fun y d q=>by simp at q) e
 refine ⟨⟨I.ok.mod,gL,I.ok.glob,I.ok.blt,hC,fun x y c h1 h2=>I.ok.inj x y c (jQ h1) (jQ h2),fun x hx=>?_,fun x c h=>?_,I.ok.hd,I.ok.frames, .inl rfl,fun b hb=>?_,I.bs,Nat.le_trans I.ok.yY I.sz,fun b o e hb=>?_,fun b hb hs=>?_,I.stack,I.lI⟩,
  rfl,I.bare,Un.kept k,⟨m0,CM,fun i x v h1 h2 h3=>?_⟩,fun x c e=>?_,I.aX.fresh hC,fun x c e=>I.dw x c (jQ e),fun p hp=>absurd (show p∈([]:List (Addr×Obj)) from hp) (by simp),I.aX.kept k,?_⟩
 ·have Py:scope.names.lookup x=some .free:=jO gU hx
  exact lY scope.names [] Jy Py
 ·exact absurd (show false=true from h) (by decide)
 ·refine ⟨?_,fun x c e=>(hf b hb).2.2.2.2.1 x c (jQ e)⟩
  obtain ⟨o,ho⟩:=KN b hb
  exact Nat.ne_of_lt (Nat.lt_of_lt_of_le (Heap.lt_size ho) hC)
 ·rcases (hf b hb).2.2.2.1 with z | z
  ·exact I.ok.qL b o e z
  ·exact absurd (Nat.lt_of_lt_of_le (Heap.lt_size e) (Nat.le_trans I.ok.yY z)) (Nat.lt_irrefl _)
 ·rcases List.mem_cons.mp (I.jo b hs) with z | z
  ·exact (hf b hb).2.1 z
  ·exact (hf b hb).2.2.1 z
 ·obtain ⟨j,e1,e2⟩:=xn h2
  obtain ⟨y,y1,y2,y3,y4⟩:=uk.get e1
  have GA:Nc[i]? =some x:=h1
  rw[y1]at GA
  cases GA
  obtain ⟨m,hn,hl⟩:=I.loc
  have hv:NH X.env.scope x:=by
   rcases y4 with z | z
   ·exact .inr (.inl z)
   ·exact .inr (.inr z)
  obtain ⟨u,r,l⟩:=hl j x v y2 e2 hv
  refine ⟨u,r, .inr ⟨jN y3,?_⟩⟩
  rcases l with ⟨l,_⟩ | ⟨_,c,hc,q⟩
  ·rcases y4 with z | z
   ·rw[z]at l;cases l
   ·rw[z]at l;cases l
  ·obtain ⟨c',wX⟩:=lY scope.names [] Jy y3
   have e:=jQ wX
   rw[hc]at e
   cases e
   obtain ⟨o,ho,hd⟩:=q
   exact ⟨c,wX,o,k _ _ ho,hd⟩
 ·obtain ⟨v,o,ho,hd⟩:=I.cell x c (jQ e)
  exact ⟨v,o,k _ _ ho,hd⟩
 ·show (jP σ ix).length=Nc.length
  unfold jP
  rw[List.length_map]
  exact uk.len
theorem xo {X:Cx} {pins nK:List (Addr×Obj)} {σ σ':St} {H H':Hp} {s s':Shared} (I:Inv X pins σ H s) {scope:Scope} {Nc:List Str} {fp:List Addr} {C D:Addr} (J:Inv (bK X scope C Nc s H fp) nK σ' H' s')
  (hf: ∀b∈fp,km X pins H b) (hD:s.heap.objs.size<=D) (hC:s.heap.objs.size<=C) (GB:D≠C) {aL:List Value} {n:Nat} {acc:List V} (eD:s'.heap.get? D=some { cls:= .type "list",data:= .seq aL.toArray n }) (r:Vals acc aL)
  (hz:acc.length<=sizeLine) (nD:H' D=none) {oC:Obj} (eC:s'.heap.get? C=some oC) (dC: ∀v,oC.data≠ .cell v):Inv X (pins++[(C,oC)]) σ (upd H' D (.lst acc)) s':=by
 have lt: ∀b o,s.heap.get? b=some o->b≠D:=fun b o e=>Nat.ne_of_lt (Nat.lt_of_lt_of_le (Heap.lt_size e) hD)
 have U:Un (jE X.stack) fp H H' s.heap s'.heap:=J.base
 have U':Un (jE X.stack) fp H (upd H' D (.lst acc)) s.heap s'.heap:=
  ⟨U.keep,U.slot,fun b o e n hx=>by rw[aj (lt b o e)];exact U.free b o e n hx,U.there,fun b xs e=>by rw[aj (ao (U.jl b xs e) nD)];exact U.jl b xs e,
   fun b o u e=>by rw[aj (ao (U.i8 b o u e) nD)];exact U.i8 b o u e,fun b ps e=>by
    obtain ⟨more,q⟩:=U.jH b ps e
    exact ⟨more,by rw[aj (ao q nD)];exact q⟩⟩
 have aX:gD X.prog X.w (upd H' D (.lst acc)) s'.heap:=fun b u e=>by
  by_cases hb:b=D
  ·subst hb
   rw[ae]at e;cases e
   exact ⟨hz,aL,n,r,eD⟩
  ·rw[aj hb]at e
   exact (J.aX b u e).lA (fun c v _ q=>q) (fun c q=>by rw[aj (ao q nD)];exact q) fun c xs q=>by rw[aj (ao q nD)];exact q
 have I':Inv X pins σ (upd H' D (.lst acc)) s':=I.EG (ch:=fp) J.os U' aX J.bare fun b hb=>by
  obtain ⟨_,h1,_,h2,h3,h4⟩:=hf b hb
  exact ⟨h2,h1,h3,h4⟩
 refine I'.jJ fun p hp=>?_
 rcases List.mem_append.mp hp with z | z
 ·exact I'.pin p (List.mem_append_right _ z)
 ·have e:p=(C,oC):=List.mem_singleton.mp z
  subst e
  refine ⟨eC,?_,Nat.ne_of_gt (Nat.lt_of_lt_of_le I.lt hC),I.FP hC,dC⟩
  rw[aj (Ne.symm GB)]
  exact J.free
def PF (Y:Cx) (ifs:List Expr) (tc:TT):Prop:=
 ∀(pins:List (Addr×Obj)) (s:Shared) (σ:St) (H:Hp) (Q:Bool->Hp->Prop),Inv Y pins σ H s->tc σ H Q->
  wpAny (model Y.prog Y.w) Y.A (forIn ifs true fun c r=>if r=true then do let ok <-isTrue c Y.env (eval c Y.env);pure (ForInStep.yield ok) else pure (ForInStep.yield r)) (TP Y pins σ Q) Y.xe s
def KO:TT:=fun _ H Q=>Q true H
theorem hV {Y:Cx}:PF Y [] KO:=fun _ _ _ H _ I h=>wpAny_tests_nil ⟨H,I,h⟩
theorem hZ {Y:Cx} {c:Expr} {tc:TT} (h:PT Y c tc):PF Y [c] tc:=fun pins s σ H Q I hw=>wpAny_tests_one (h pins s σ H Q I hw)
def jR (J:It) (σc:St) (g:TG) (tc:TT) (te:TE) (Q:VK) (H1:Hp):Prop:=
 ∃W:Nat->Nat->List V->Hp->Prop,(∃m,W 0 m [] H1)/\ ∀i m acc H,W i m acc H->acc.length<sizeLine/\
 ((J.stop i H/\ ∀D,H D=none->Q (.ref D) (upd H D (.lst acc)))\/
  (J.go i H/\ ∀x H',J.yZ i H x H'->g x σc H' fun σ2 H2=>Wk σc σ2/\tc σ2 H2 fun b H3=>if b=true then te σ2 H3 fun v H4=> ∃m',m'<m/\W (i+1) m' (acc++[v]) H4 else ∃m',m'<m/\W (i+1) m' acc H3))
def qY (wi:TI) (ix:List (Option Nat)) (g:TG) (tc:TT) (te:TE):TE:=fun σ H Q=>wi σ H fun J H1=>jR J (jP σ ix) g tc te Q H1
theorem nZ {X:Cx} {tg iter elt:Expr} {ifs:List Expr} {scope:Scope} {pos:Pos} {wi:TI} {g:TG} {tc:TT} {te:TE} {Nc:List Str} {ix:List (Option Nat)} (hi:PI X tg iter wi) (jf:X.calm=true) (uk:i_ X scope Nc ix)
  (gU: ∀y∈scope.names,y.2≠ .cell) (gL:scope.kind= .function) (lE: ∀y∈scope.names,y.2= .free->X.env.kindOf y.1=some .cell\/X.env.kindOf y.1=some .free)
  (hG: ∀C s H fp,PG (bK X scope C Nc s H fp) tg g) (hT: ∀C s H fp,PF (bK X scope C Nc s H fp) ifs tc) (hE: ∀C s H fp,PE (bK X scope C Nc s H fp) elt te)
  {pins:List (Addr×Obj)} {s:Shared} {σ:St} {H:Hp} {Q:VK} (I:Inv X pins σ H s) (h:qY wi ix g tc te σ H Q) {RR:Value->Addr->Result->Shared->Prop}
  (Xv: ∀(D C:Addr) (oC:Obj) (m:Str->Option Value) (H':Hp) (s':Shared),s'.heap.get? C=some oC->s'.heap.Ns C m->km X pins H' C->Inv X (pins++[(C,oC)]) σ H' s'->Q (.ref D) H'->RR (.ref D) C (.ok .next) s'):
  wpAny (model X.prog X.w) X.A (eval iter X.env) (fun v s1=>wpAny (model X.prog X.w) X.A (pyIter v) (fun it s2=>wpAny (model X.prog X.w) X.A (newList []) (fun acc s3=>
   wpAny (model X.prog X.w) X.A (newFunctionEnv scope X.env.globals (gP X.env scope.names []) [] X.env.qual none .none (some X.env)) (fun KP s4=>
    codeAny (model X.prog X.w) X.A (.compStart (.ListComp elt [⟨tg,iter,ifs,0⟩] scope pos) 0 it acc { KP with scope:=relabel scope X.env }) (RR acc KP.locals) s4) X.xe s3) X.xe s2) X.xe s1) X.xe s:=by
 refine bQ (hi pins s σ H _ I h) fun v s1 h1=>bQ h1 fun Pz s2 h2=>?_
 obtain ⟨it,fp,tn,J,H2,e,I2,T,iJ,f2,W,⟨m0,w0⟩,turn⟩:=h2
 subst e
 refine wpAny_newObj_type (wpAny_newFunctionEnv gU (by intro y hy;simp at hy) (fun h₁ GC CO=>?_) gL)
 dsimp only at GC CO ⊢
 generalize Qa:s2.heap.push { cls:= .type "list",dict:=none,data:= .seq ([]:List Value).toArray }=P2 at GC CO ⊢
 have hC:P2.objs.size=s2.heap.objs.size+1:=by rw[<-Qa,Heap.size_push]
 have GB:s2.heap.objs.size≠P2.objs.size:=by rw[hC];exact Nat.ne_of_lt (Nat.lt_succ_self _)
 have GD:s2.heap.objs.size<=P2.objs.size:=by rw[hC];exact Nat.le_succ _
 have FQ: ∀b,b<s2.heap.objs.size->b≠P2.objs.size:=fun b hb=>by rw[hC];exact Nat.ne_of_lt (Nat.lt_succ_of_lt hb)
 have old: ∀b o,s2.heap.get? b=some o->h₁.get? b=some o:=fun b o e=>CO.extBut b o (FQ b (Heap.lt_size e)) (Heap.get?_push_of_some _ (Qa▸Heap.get?_push_of_some _ e))
 have um:h₁.get? s2.heap.objs.size=some { cls:= .type "list",data:= .seq ([]:List Value).toArray }:=CO.extBut _ _ GB (Heap.get?_push_of_some _ (Qa▸Heap.get?_push_size _ rfl))
 have Vf:tn 0 h₁:=T.keep 0 _ _ iJ fun b _ o e=>old b o e
 have KN: ∀b∈fp, ∃o,s2.heap.get? b=some o:=fun b hb=>let ⟨o,e,_⟩:=T.obj 0 _ iJ b hb;⟨o,e⟩
 have Vg: ∀b∈fp,s2.heap.objs.size≠b:=fun b hb=>let ⟨o,e⟩:=KN b hb;Nat.ne_of_gt (Heap.lt_size e)
 have IY:=uj I2 uk gU gL lE f2 KN (t':=s2.toks+([]:List (Str×Value)).length) GD GC old
 have Qb: ∀b,s2.heap.objs.size<=b->b∉jE X.stack:=fun b hb hs=>by
  rcases List.mem_cons.mp (I2.jo b hs) with z | z
  ·exact absurd (Nat.lt_of_lt_of_le I2.lt hb) (by rw[z];exact Nat.lt_irrefl _)
  ·exact I2.FP hb z
 have jQ: ∀{x:Str} {c:Addr},(gP X.env scope.names []).lookup x=some c->X.env.cells.lookup x=some c:=fun {x c} e=>kx scope.names [] (fun y d q=>by simp at q) e
 have KQ: ∀x c,(gP X.env scope.names []).lookup x=some c->c≠s2.heap.objs.size:=fun x c e z=>by
  obtain ⟨v,q⟩:=I2.cell x c (jQ e)
  exact absurd (q.lt) (by rw[z];exact Nat.lt_irrefl _)
 have fY: ∀{pl:List (Addr×Obj)} {H':Hp},(∀p∈pl,p.1=s2.heap.objs.size)->(∀b∈fp,H' b=none)-> ∀b∈fp,km (bK X scope P2.objs.size Nc s2 H2 fp) pl H' b:=fun {pl H'} gB hn b hb=>by
  refine ⟨hn b hb,?_,?_, .inl hb,fun x c e=>(f2 b hb).2.2.2.2.1 x c (jQ e),fun p hp=>?_⟩
  ·obtain ⟨o,e⟩:=KN b hb
   exact FQ b (Heap.lt_size e)
  ·intro hs
   rcases List.mem_cons.mp (I2.jo b hs) with z | z
   ·exact (f2 b hb).2.1 z
   ·exact (f2 b hb).2.2.1 z
  ·rw[gB p hp]
   exact Vg b hb
 have loop: ∀s₃:Shared,s₃={ s2 with heap:=h₁,toks:=s2.toks+([]:List (Str×Value)).length }->
   codeAny (model X.prog X.w) X.A (.compLoop (.ListComp elt [⟨tg,iter,ifs,0⟩] scope pos) 0 (.ref it) (.ref s2.heap.objs.size) (compEnvC scope (gP X.env scope.names []) P2.objs.size X.env)) (RR (.ref s2.heap.objs.size) P2.objs.size) s₃:=by
  rintro s₃ rfl
  refine pU (fun n s'=> ∃i acc aL nn H',Inv (bK X scope P2.objs.size Nc s2 H2 fp) [] (jP σ ix) H' s'/\tn i s'.heap/\(∀b∈fp,H' b=none)/\
   s'.heap.get? s2.heap.objs.size=some { cls:= .type "list",data:= .seq (aL:List Value).toArray nn }/\Vals acc aL/\H' s2.heap.objs.size=none/\W i n acc H') ?_ m0
   ⟨0,[],[],0,H2,IY,Vf,fun b hb=>(f2 b hb).1,um, .nil,I2.aX.fresh (Nat.le_refl _),w0⟩
  rintro n s3 ⟨i,acc,aL,nn,H3,I3,y0,y6,eD,rv,nD,w3⟩
  obtain ⟨hz,alt⟩:=turn i n acc H3 w3
  have IP:Inv (bK X scope P2.objs.size Nc s2 H2 fp) [(s2.heap.objs.size,{ cls:= .type "list",data:= .seq aL.toArray nn })] (jP σ ix) H3 s3:=I3.jJ fun p hp=>by
   have e:p=(s2.heap.objs.size,_):=List.mem_singleton.mp hp
   subst e
   refine ⟨eD,nD,GB,Qb _ (Nat.le_refl _),fun v z=>?_⟩
   have z':Data.seq aL.toArray nn=Data.cell v:=z
   cases z'
  have gB: ∀p∈[(s2.heap.objs.size,({ cls:= .type "list",data:= .seq aL.toArray nn }:Obj))],p.1=s2.heap.objs.size:=fun p hp=>by
   have e:p=(s2.heap.objs.size,_):=List.mem_singleton.mp hp
   rw[e]
  rcases alt with ⟨stop,fin⟩ | ⟨go,step⟩
  ·refine bQ (T.done (bK X scope P2.objs.size Nc s2 H2 fp) rfl rfl rfl jf i _ s3 _ H3 Ca IP (fY gB y6) y0 stop) fun r s4 ⟨hr,I4⟩=>?_
   subst hr
   obtain ⟨m,hn,_⟩:=id I4.loc
   obtain ⟨oC,es,ep,eC,dC,_⟩:=id hn
   have Xw:=(I4.pin (s2.heap.objs.size,_) (List.mem_append_right _ (List.mem_singleton.mpr rfl))).1
   have Qc:=fin _ nD
   refine Xv _ _ oC m _ s4 eC hn ?_ (xo I2 I4 f2 (Nat.le_refl _) GD GB Xw rv (Nat.le_of_lt hz) nD eC fun v z=>?_) Qc
   ·refine I2.lS GD ?_
    rw[aj (Ne.symm GB)]
    exact I4.free
   ·rw[dC]at z;cases z
  ·refine bQ (T.item (bK X scope P2.objs.size Nc s2 H2 fp) rfl rfl rfl jf i _ s3 _ H3 Ca IP (fY gB y6) y0 go) fun r s4 ⟨u,hr,h4⟩=>?_
   subst hr
   refine bQ h4 fun _ s5 ⟨x,H5,I5,r5,y5,y7,EK⟩=>?_
   have PJ:=I5.pinned (fY gB EK) (T.obj _ _ y7)
   refine bQ (hG _ s2 H2 fp _ s5 _ H5 x u _ PJ r5 (step x H5 y5)) fun _ s6 ⟨σ6,H6,I6,wk,q6⟩=>?_
   refine bQ (hT _ s2 H2 fp _ s6 σ6 H6 _ I6 q6) fun b s7 ⟨H7,I7,q7⟩=>?_
   have again: ∀{H9:Hp} {s9:Shared} {m':Nat},Inv (bK X scope P2.objs.size Nc s2 H2 fp) ([(s2.heap.objs.size,({ cls:= .type "list",data:= .seq aL.toArray nn }:Obj))]++lT fp s5.heap) σ6 H9 s9->
     (s9.heap.get? s2.heap.objs.size=some { cls:= .type "list",data:= .seq aL.toArray nn }/\H9 s2.heap.objs.size=none)/\tn (i+1) s9.heap/\(∀b∈fp,H9 b=none)/\Inv (bK X scope P2.objs.size Nc s2 H2 fp) [] (jP σ ix) H9 s9:=fun {H9 s9 m'} I9=>by
    have pD:=I9.pin (s2.heap.objs.size,_) (List.mem_append_right _ (List.mem_append_left _ (List.mem_singleton.mpr rfl)))
    refine ⟨⟨pD.1,pD.2.1⟩,T.keep _ _ _ y7 fun b hb o e=>(I9.pin (b,o) (List.mem_append_right _ (List.mem_append_right _ (gE hb e)))).1,fun b hb=>?_,?_⟩
    ·obtain ⟨o,e,d⟩:=T.obj _ _ y7 b hb
     exact (I9.pin (b,o) (List.mem_append_right _ (List.mem_append_right _ (gE hb e)))).2.1
    ·exact (I9.weak wk.len fun i v e=>wk.get e).jJ fun p hp=>absurd hp (by simp)
   cases b with
   | false=>
    rw[if_neg Bool.false_ne_true]at q7 ⊢
    obtain ⟨m',hm,w7⟩:=q7
    obtain ⟨⟨e7,n7⟩,t7,f7,J7⟩:=again (m':=0) I7
    exact ⟨m',hm,i+1,acc,aL,nn,H7,J7,t7,f7,e7,rv,n7,w7⟩
   | true=>
    rw[if_pos rfl]at q7 ⊢
    refine bQ (hE _ s2 H2 fp _ s7 σ6 H7 _ I7 q7) fun y s8 ⟨v,H8,I8,r8,m',hm,w8⟩=>?_
    obtain ⟨⟨e8,n8⟩,t8,f8,J8⟩:=again (m':=0) I8
    refine wpAny_list_append_plain (items:=aL.toArray) ⟨nn,e8⟩ (fun h9 KR Vh=>?_) (by rw[List.size_toArray, <-rv.length];exact Nat.le_of_lt hz)
    obtain ⟨n9,e9⟩:=KR
    refine ⟨m',hm,i+1,acc++[v],aL++[y],n9,H8,J8.turned (t':=s8.toks) (fun b o hb e=>(Vh.2 b hb).trans e) n8 GB (.inr (Nat.le_refl _)) KQ (fun p hp=>absurd hp (by simp[bK])),?_,f8,?_,rv.append (.cons r8 .nil),n8,w8⟩
    ·exact T.keep _ _ _ t8 fun b hb o e=>(Vh.2 b (Ne.symm (Vg b hb))).trans e
    ·simpa using e9
 exact codeAny_compStart_list (loop _ rfl) (T.self _ 0 _ _ _ Vf (loop _ rfl))
theorem CP {X:Cx} {tg iter elt:Expr} {ifs:List Expr} {scope:Scope} {pos:Pos} {wi:TI} {g:TG} {tc:TT} {te:TE} (Nc:List Str) (ix:List (Option Nat)) (hi:PI X tg iter wi) (jf:X.calm=true) (uk:i_ X scope Nc ix)
  (gU: ∀y∈scope.names,y.2≠ .cell) (gL:scope.kind= .function) (lE: ∀y∈scope.names,y.2= .free->X.env.kindOf y.1=some .cell\/X.env.kindOf y.1=some .free)
  (uo: ∀x∈scope.names,x.2= .local->scope.names.lookup x.1=some .local)
  (hG: ∀C s H fp,PG (bK X scope C Nc s H fp) tg g) (hT: ∀C s H fp,PF (bK X scope C Nc s H fp) ifs tc) (hE: ∀C s H fp,PE (bK X scope C Nc s H fp) elt te)
  (hs: ∀x,foldedSetIterable iter X.env x=pure x:=by intro _;rfl):PE X (.ListComp elt [⟨tg,iter,ifs,0⟩] scope pos) (qY wi ix g tc te):=by
 intro pins s σ H Q I h
 rw[eval_ListComp]
 have Jy: ∀y∈scope.names,y.2= .free-> ∃c,X.env.cells.lookup y.1=some c:=fun y hy e=>I.ok.has y.1 (lE y hy e)
 refine wpAny_comprehension_free (use:=none) rfl hs (je Jy) gL uo (nZ hi jf uk gU gL lE hG hT hE I h (RR:=fun acc C=>compPost (model X.prog X.w) X.A X.xe none (EP X pins σ Q) acc C) ?_)
 intro D C oC m H' s' eC hn fC I' q
 refine ⟨m,hn,fun h' Qd=>⟨.ref D,H',?_,rfl,q⟩⟩
 exact I'.gZ.turned (t':=s'.toks) (fun b o hb e=>(Qd.2 b hb).trans e) fC.1 fC.2.1 fC.2.2.2.1 fC.2.2.2.2.1 fC.2.2.2.2.2
theorem CQ {X:Cx} {i:Nat} {x:Str} {tg iter elt:Expr} {ifs:List Expr} {scope:Scope} {pos zL pos':Pos} {wi:TI} {g:TG} {tc:TT} {te:TE} (Nc:List Str) (ix:List (Option Nat)) (hN:X.N.Nodup) (KS:X.N[i]? =some x) (hx:Loc X.env.scope x)
  (Jz:swapsWith (.ListComp elt [⟨tg,iter,ifs,0⟩] scope pos) (some (.Name x pos')) zL.line X.env=pure true) (hi:PI X tg iter wi) (jf:X.calm=true) (uk:i_ X scope Nc ix)
  (gU: ∀y∈scope.names,y.2≠ .cell) (gL:scope.kind= .function) (lE: ∀y∈scope.names,y.2= .free->X.env.kindOf y.1=some .cell\/X.env.kindOf y.1=some .free)
  (uo: ∀x∈scope.names,x.2= .local->scope.names.lookup x.1=some .local)
  (hG: ∀C s H fp,PG (bK X scope C Nc s H fp) tg g) (hT: ∀C s H fp,PF (bK X scope C Nc s H fp) ifs tc) (hE: ∀C s H fp,PE (bK X scope C Nc s H fp) elt te)
  (hs: ∀x,foldedSetIterable iter X.env x=pure x:=by intro _;rfl) (hf:X.fn x=true\/X.env.scope.names.lookup x=some .local:=by first | exact .inl rfl | exact .inr rfl | assumption):
  PS X (.Assign [.Name x pos'] (.ListComp elt [⟨tg,iter,ifs,0⟩] scope pos) zL) (Cv (qY wi ix g tc te) (vq i)):=by
 intro pins s σ H E I h
 have Jy: ∀y∈scope.names,y.2= .free-> ∃c,X.env.cells.lookup y.1=some c:=fun y hy e=>I.ok.has y.1 (lE y hy e)
 rw[exec_Assign_Name_used _ _ _ _ Jz]
 refine wpAny_bind (wpAny_standAt (wpAny_bind ?_))
 show wpAny _ X.A (do let _ <-comprehension (.ListComp elt [⟨tg,iter,ifs,0⟩] scope pos) scope X.env _ (newList []) false (eval iter X.env) (some (assign (.Name x pos') X.env))) _ _ s
 refine wpAny_bind (wpAny_mono (wpAny_comprehension_free (use:=some (assign (.Name x pos') X.env)) (Q:=fun _ s'=>SP X pins E .next s') rfl hs (je Jy) gL uo
  (nZ hi jf uk gU gL lE hG hT hE I h (RR:=fun acc C=>compPost (model X.prog X.w) X.A X.xe (some (assign (.Name x pos') X.env)) (fun _ s'=>SP X pins E .next s') acc C) ?_)) (fun _ s' hq=>wpAny_pure (wpAny_pure hq)) fun _ _ e=>e)
 intro D C oC m H' s' eC hn fC I' q
 show wpAny _ X.A (assign (.Name x pos') X.env (.ref D)) _ _ _
 refine wpAny_assign_Name (fv I' hN KS hx (show RelV (.ref D) _ from rfl) (fun Kt Vi=>?_) hf)
 have pC:=Vi.pin (C,oC) (List.mem_append_right _ (List.mem_append_right _ (List.mem_singleton.mpr rfl)))
 refine ⟨m,?_,fun h' Qd=>?_⟩
 ·obtain ⟨o,es,ep,e,r⟩:=hn
  rw[eC]at e;cases e
  exact ⟨oC,es,ep,pC.1,r⟩
 ·refine ⟨_,H',Vi.gZ.turned (t':=Kt.toks) (fun b o hb e=>(Qd.2 b hb).trans e) fC.1 fC.2.1 fC.2.2.2.1 fC.2.2.2.2.1 fC.2.2.2.2.2,q⟩
end L2
namespace L2
open PySem PySem.Spec PyProof.Rows
noncomputable def S (l:List Nat):Str:=⟨l.toArray⟩
theorem fA (l:List Nat):(S l).cps.toList=l:=by simp[S]
theorem d_ (l:List Nat):(S l).length=l.length:=by simp[S,Str.length]
theorem h7 (l:List Nat):(S l).cps.size=l.length:=by simp[S]
theorem KU {a b:List Nat} (h:S a=S b):a=b:=by
 have:=congrArg (fun x:Str=>x.cps.toList) h
 simpa [S]using this
theorem KW (x:Str):x=S x.cps.toList:=by cases x;simp[S]
theorem KY (a b:List Nat):S a++S b=S (a++b):=by
 apply Str.ext'
 apply Array.toList_inj.mp
 simp[S,Str.cps_append]
theorem EU {a b:List Nat}:decide (V.str (S a)=V.str (S b))=decide (a=b):=by
 by_cases h:a=b
 ·subst h;simp
 ·rw[decide_eq_false h,decide_eq_false]
  intro q
  exact h (KU (V.str.inj q))
noncomputable def cut {α:Type} (xs:List α) (lo hi:Option Int):List α:=(xs.drop (HT.jF xs.length 0 lo)).take (HT.jF xs.length xs.length hi - HT.jF xs.length 0 lo)
theorem qZ (n d:Nat) (v:Int):max 0 (min (if v<0 then v+(n:Int) else v) (n:Int))=((HT.jF n d (some v):Nat):Int):=by
 show _=(((if v<0 then (v+(n:Int)).toNat else min v.toNat n):Nat):Int)
 by_cases hv:v<0
 ·simp only[if_pos hv];omega
 ·simp only[if_neg hv];omega
theorem kU (lo hi:Option Int) (n:Nat):Builtin.Str.strSliceIndices lo hi 1 n=(List.range (HT.jF n n hi - HT.jF n 0 lo)).map (HT.jF n 0 lo+ ·):=by
 have h1:(1:Int)>0:=by decide
 rw[<-sliceRange_one]
 unfold Builtin.Str.strSliceIndices
 simp only[h1,if_true]
 congr 1
 ·cases lo with
  | none=>rfl
  | some v=>exact qZ n 0 v
 ·cases hi with
  | none=>rfl
  | some v=>exact qZ n n v
theorem CS (l:List Nat) (lo hi:Option Int):Txt.slice (S l) lo hi=S (cut l lo hi):=by
 have hx:((Builtin.Str.strSliceIndices lo hi 1 (S l).length).filterMap ((S l).cps[·]?))=cut l lo hi:=by
  rw[d_,kU,pick_run,fA]
  rfl
 have hlen:(Builtin.Str.strSliceIndices lo hi 1 (S l).length).length=HT.jF l.length l.length hi - HT.jF l.length 0 lo:=by
  rw[d_,kU,List.length_map,List.length_range]
 unfold Txt.slice
 by_cases hc:((1:Int)==1&&(Builtin.Str.strSliceIndices lo hi 1 (S l).length).length==(S l).length)=true
 ·rw[if_pos hc]
  rw[hlen,d_]at hc
  have e:HT.jF l.length l.length hi - HT.jF l.length 0 lo=l.length:=by simpa using hc
  have h2:=HT.Gj l.length l.length (Nat.le_refl _) hi
  have e0:HT.jF l.length 0 lo=0\/l.length=0:=by omega
  unfold cut
  rw[e]
  rcases e0 with z | z
  ·rw[z];simp
  ·have:l=[]:=List.eq_nil_of_length_eq_zero z
   subst this
   simp
 ·rw[if_neg hc]
  rw[hx]
  rfl
section
variable {X:Cx}
theorem bR {x:Str} {j pos} (l:List Nat) (h:x=S l):PE X (.Constant (.str x) j pos) (tC (.str (S l))):=by
 subst h
 exact FT
def KZ:R2:=fun x y H Q=> ∃a b,x= .str (S a)/\y= .str (S b)/\a.length+b.length<=sizeLine/\Q (.str (S (a++b))) H
theorem gG:gc X (binaryOp .Add) KZ:=by
 intro pins s σ H x y v u Q I rx ry h
 obtain ⟨a,b,rfl,rfl,hz,q⟩:=h
 exact ua pins s σ H _ _ v u Q I rx ry ⟨S a,S b,rfl,rfl,by rw[d_,d_];exact hz,by rw[KY];exact q⟩
def K0:R2:=fun x y H Q=> ∃l i c,x= .str (S l)/\y= .int i/\l.length<=sizeLine/\m9 l i=some c/\Q (.str (S [c])) H
theorem nA:Gk X K0:=by
 intro value slice pins s σ H x y v u Q I rx ry h hs
 obtain ⟨l,i,c,rfl,rfl,hz,he,q⟩:=h
 exact Gp value slice pins s σ H _ _ v u Q I rx ry ⟨S l,i,c,rfl,rfl,by rw[d_];exact hz,by rw[fA];exact he,q⟩ hs
def Qe:V->Option Int->Option Int->Hp->VK->Prop:=fun x lo hi H Q=> ∃l,x= .str (S l)/\l.length<=sizeLine/\Q (.str (S (cut l lo hi))) H
theorem xp:NN X Qe:=by
 intro pins s σ H x v vl vu lo hi sl Q I rx hs pl pu h
 obtain ⟨l,rfl,hz,q⟩:=h
 obtain ⟨t,rfl⟩:=rx
 refine ⟨"str",_,F.slot_str_getitem.lookup,typeIs_str _ _ _,?_⟩
 have key: ∀(a b:Option (Int×Tok)),vl=partValue a->vu=partValue b->a.map (·.1)=lo->b.map (·.1)=hi->wpAny (model X.prog X.w) X.A (getItem (.str (S l) t) (.ref sl)) (EP X pins σ Q) X.xe s:=by
  rintro a b rfl rfl rfl rfl
  obtain ⟨o,e,c,d⟩:=hs
  refine wpAny_getItem_str_slice (l:=a) (u:=b) (st:=none) ⟨o,e,c,d⟩ rfl (post_val_or_str ⟨?_,fun t' k=>?_⟩)
  ·exact Nat.le_trans (Txt.slice_le (S l) _ _) (by rw[d_];exact hz)
  ·exact ⟨.str (S (cut l _ _)),H,I.tok _,⟨t',congrArg (fun z=>Value.str z t') (CS l _ _)⟩,q⟩
 cases pl with
 | none=>
  cases pu with
  | none=>exact key none none rfl rfl rfl rfl
  | int i ti=>exact key none (some (i,ti)) rfl rfl rfl rfl
 | int i ti=>
  cases pu with
  | none=>exact key (some (i,ti)) none rfl rfl rfl rfl
  | int j tj=>exact key (some (i,ti)) (some (j,tj)) rfl rfl rfl rfl
theorem bJ:cS X (.builtin "len") (fun xs H Q=> ∃l,xs=[.str (S l)]/\l.length<=sizeLine/\Q (.int l.length) H):=by
 intro pins s σ H xs us Q I r h
 obtain ⟨l,rfl,hz,q⟩:=h
 exact pP pins s σ H _ us Q I r ⟨S l,rfl,by rw[d_];exact hz,by rw[d_];exact q⟩
noncomputable def bO (l:List Nat):List V:=l.map fun c=>V.str (S [c])
theorem uq {l:List Nat}: ∀{acc:List Value},acc.length=l.length->(∀j v,acc[j]? =some v->SignAt (S l) j v)->Vals (bO l) acc:=by
 induction l with
 | nil=>intro acc h _;have:acc=[]:=List.eq_nil_of_length_eq_zero h;subst this;exact .nil
 | cons c l ih=>
  intro acc h k
  cases acc with
  | nil=>cases h
  | cons a acc=>
   refine .cons ?_ (ih (by simpa using h) fun j v e=>?_)
   ·obtain ⟨c',u,e1,e2⟩:=k 0 a rfl
    have:c=c':=by simpa [S]using e1
    subst this
    exact ⟨u,e2⟩
   ·obtain ⟨c',u,e1,e2⟩:=k (j+1) v (by simpa using e)
    exact ⟨c',u,by simpa [S]using e1,e2⟩
theorem fD (hc:X.calm=true):cS X (.type "list") (fun xs H Q=> ∃l,xs=[.str (S l)]/\l.length<=sizeLine/\ ∀p,H p=none->Q (.ref p) (upd H p (.lst (bO l)))):=by
 intro pins s σ H xs us Q I r h
 obtain ⟨l,rfl,hz,q⟩:=h
 obtain ⟨u,rfl,t,rfl⟩:=vals1 r
 refine call_list_str (I.ok.hd hc) (S l) t (fun h' tk bF c' hk e um=>?_) (by rw[h7];exact hz)
 obtain ⟨h1,h2⟩:=um
 rw[h7]at h1
 refine ⟨.ref s.heap.objs.size,_,I.laid (t':=tk) (o:= .lst (bO l)) hk (Nat.le_refl _) ?_,rfl,q _ I.fresh⟩
 exact ⟨by unfold bO;rw[List.length_map];exact hz,bF.toList,c',uq (by simpa using h1) (fun j v e=>h2 j v (by simpa using e)),by simpa using e⟩
def Qf:R2:=fun x y H Q=> ∃c l,x= .str (S [c])/\y= .str (S l)/\Q (.bl (decide (c∈l))) H
theorem zM:gc X (compareOp .In) Qf:=by
 intro pins s σ H x y v u Q I rx ry h
 obtain ⟨c,l,rfl,rfl,q⟩:=h
 refine w_ pins s σ H _ _ v u Q I rx ry ⟨S [c],S l,rfl,rfl,?_⟩
 have e:=StrLaws.found_one (S l) c
 rw[fA]at e
 rw[show (S [c])=(⟨#[c]⟩:Str) from rfl,e]
 exact q
end
end L2
namespace L2
open PySem PySem.Spec PyProof.Rows
theorem n_ (s sub:Str) (hi:Nat): ∀(l:List Nat) (st:Array Nat×Nat),1<=st.fst.size->(forIn l st (StrLaws.occBody s sub hi 1)).run.fst=st.fst
 | [],st,h=>rfl
 | a::l,st,h=>by
  rw[List.forIn_cons]
  unfold StrLaws.occBody
  rw[if_neg (fun z=>absurd z.1.1.1 (Nat.not_lt.mpr h))]
  exact n_ s sub hi l _ h
theorem occ_first (s sub:Str) (hi:Nat): ∀(l:List Nat) (free:Nat),(∀i∈l,free<=i)->
  (forIn l ((#[]:Array Nat),free) (StrLaws.occBody s sub hi 1)).run.fst.toList=(l.find? fun i=>decide (i+sub.length<=hi)&&Builtin.Str.subAt s sub i).toList
 | [],free,_=>rfl
 | a::l,free,hf=>by
  rw[List.forIn_cons,List.find?_cons]
  unfold StrLaws.occBody
  have ha:free<=a:=hf a List.mem_cons_self
  by_cases hc:a+sub.length<=hi/\Builtin.Str.subAt s sub a=true
  ·rw[if_pos ⟨⟨⟨by simp,ha⟩,hc.1⟩,hc.2⟩]
   have:(decide (a+sub.length<=hi)&&Builtin.Str.subAt s sub a)=true:=by simp[hc]
   rw[this]
   show (forIn l (#[].push a,a+sub.length) (StrLaws.occBody s sub hi 1)).run.fst.toList=_
   rw[n_ s sub hi l _ (by simp)]
   rfl
  ·rw[if_neg (fun z=>hc ⟨z.1.2,z.2⟩)]
   have:(decide (a+sub.length<=hi)&&Builtin.Str.subAt s sub a)=false:=by
    cases h1:decide (a+sub.length<=hi) with
    | false=>rfl
    | true=>
     cases h2:Builtin.Str.subAt s sub a with
     | false=>rfl
     | true=>exact absurd ⟨of_decide_eq_true h1,h2⟩ hc
   rw[this]
   exact occ_first s sub hi l free fun i Xx=>hf i (List.mem_cons_of_mem _ Xx)
theorem subAt_one (l:List Nat) (c i:Nat):Builtin.Str.subAt (S l) (S [c]) i=(l[i]? ==some c):=by
 unfold Builtin.Str.subAt
 rw[d_]
 show ((S l).cps.extract i (i+1)== #[c])=_
 have e:((S l).cps.extract i (i+1))=((l.drop i).take 1).toArray:=by
  apply Array.toList_inj.mp
  simp[S,List.take_drop]
 rw[e]
 by_cases h:i<l.length
 ·have e2:(l.drop i).take 1=[l[i]]:=by
   rw[List.drop_eq_getElem_cons h];rfl
  rw[e2,List.getElem?_eq_getElem h]
  by_cases hc:l[i]=c
  ·rw[hc];simp
  ·have h1:([l[i]].toArray== #[c])=false:=by
    rw[beq_eq_false_iff_ne]
    intro z
    apply hc
    have:=congrArg Array.toList z
    simpa using this
   have h2:(some l[i]==some c)=false:=by simpa using hc
   rw[h1,h2]
 ·have e2:(l.drop i).take 1=[]:=by rw[List.drop_eq_nil_of_le (by omega)];rfl
  rw[e2,List.getElem?_eq_none (by omega)]
  rfl
theorem lZ (l:List Nat) (c:Nat): ∀(k n:Nat),k+n=l.length+1->((List.range' k n).find? fun i=>decide (i+1<=l.length)&&(l[i]? ==some c))=if c∈l.drop k then some (k+(l.drop k).idxOf c) else none
 | k,0,h=>by
  have:l.drop k=[]:=List.drop_eq_nil_of_le (by omega)
  rw[this];simp
 | k,n+1,h=>by
  rw[List.range'_succ,List.find?_cons]
  by_cases hk:k<l.length
  ·have e:l.drop k=l[k]::l.drop (k+1):=List.drop_eq_getElem_cons hk
   rw[List.getElem?_eq_getElem hk,e]
   by_cases hc:l[k]=c
   ·have:(decide (k+1<=l.length)&&(some l[k]==some c))=true:=by simp[hc];omega
    rw[this,if_pos (by simp[hc])]
    simp[hc]
   ·have:(decide (k+1<=l.length)&&(some l[k]==some c))=false:=by simp[hc]
    rw[this,lZ l c (k+1) n (by omega)]
    have wX: ¬c=l[k]:=fun z=>hc z.symm
    by_cases hm:c∈l.drop (k+1)
    ·rw[if_pos hm,if_pos (List.mem_cons_of_mem _ hm),List.idxOf_cons]
     have:(l[k]==c)=false:=by simpa using hc
     rw[this]
     show some (k+1+List.idxOf c (List.drop (k+1) l))=some (k+(List.idxOf c (List.drop (k+1) l)+1))
     congr 1
     omega
    ·rw[if_neg hm,if_neg (by intro z;rcases List.mem_cons.mp z with z | z;exact wX z;exact hm z)]
  ·have:l.drop k=[]:=List.drop_eq_nil_of_le (by omega)
   have e1:(decide (k+1<=l.length)&&(l[k]? ==some c))=false:=by
    rw[decide_eq_false (by omega)];rfl
   have e2:l.drop (k+1)=[]:=List.drop_eq_nil_of_le (by omega)
   rw[e1,lZ l c (k+1) n (by omega),this,e2]
   simp
theorem K3 (l:List Nat) (c:Nat):Builtin.Str.occurrences (S l) (S [c]) 0 (S l).length 1=if c∈l then [l.idxOf c] else []:=by
 rw[StrLaws.occ_eq,occ_first _ _ _ _ 0 fun _ _=>Nat.zero_le _]
 have e:(fun i=>decide (i+(S [c]).length<=(S l).length)&&Builtin.Str.subAt (S l) (S [c]) i)=fun i=>decide (i+1<=l.length)&&(l[i]? ==some c):=by
  funext i
  rw[subAt_one,d_,d_]
  rfl
 rw[e,d_,Nat.sub_zero,lZ l c 0 (l.length+1) (by omega),List.drop_zero]
 by_cases h:c∈l
 ·rw[if_pos h,if_pos h,Nat.zero_add];rfl
 ·rw[if_neg h,if_neg h];rfl
section
variable {X:Cx}
def CT:V->List V->Hp->VK->Prop:=fun x vs H Q=> ∃l c,x= .str (S l)/\vs=[.str (S [c])]/\c∈l/\Q (.int (l.idxOf c:Nat)) H
theorem oa:xh X "str.index" CT:=by
 intro pins s σ H x xs v us Q I rx rv h
 obtain ⟨l,c,rfl,rfl,hc,q⟩:=h
 obtain ⟨t,rfl⟩:=rx
 obtain ⟨u,rfl,t',rfl⟩:=vals1 rv
 exact SC.index (i:=l.idxOf c) (rest:=[]) (by rw[K3,if_pos hc]) ⟨.int (l.idxOf c:Nat),H,I.tok _,⟨_,rfl⟩,q⟩
def K4 (f:Nat->Bool):V->List V->Hp->VK->Prop:=fun x vs H Q=> ∃c,x= .str (S [c])/\vs=[]/\c<128/\Q (.bl (f c)) H
def K5 (f:Nat->Nat):V->List V->Hp->VK->Prop:=fun x vs H Q=> ∃c,x= .str (S [c])/\vs=[]/\c<128/\Q (.str (S [f c])) H
noncomputable def cE (c:Nat):Bool:=decide (97<=c)&&decide (c<=122)
theorem CU: ∀c,c<128->Txt.islower ⟨#[c]⟩=cE c:=by decide+kernel
theorem l_:xh X "str.islower" (K4 cE):=by
 intro pins s σ H x xs v us Q I rx rv h
 obtain ⟨c,rfl,rfl,hc,q⟩:=h
 obtain ⟨t,rfl⟩:=rx
 have e:us=[]:=by cases rv;rfl
 subst e
 exact SC.islower ⟨.bl (cE c),H,I,congrArg Value.bool (CU c hc),q⟩
theorem upper_one {c:Nat} (hc:c<128):Txt.upper (S [c])=S [up1 c]:=by
 rw[upper_ascii (by intro d hd;rw[fA]at hd;simp at hd;omega)]
 simp[S]
theorem og {c:Nat} (hc:c<128):Txt.lower (S [c])=S [lo1 c]:=by
 rw[lower_ascii (by intro d hd;rw[fA]at hd;simp at hd;omega)]
 simp[S]
theorem EV (c:Nat):Builtin.Str.tooLong (S [c]).length=false:=by
 rw[d_]
 show Builtin.Str.tooLong 1=false
 decide
theorem zN:xh X "str.upper" (K5 up1):=by
 intro pins s σ H x xs v us Q I rx rv h
 obtain ⟨c,rfl,rfl,hc,q⟩:=h
 obtain ⟨t,rfl⟩:=rx
 have e:us=[]:=by cases rv;rfl
 subst e
 exact SC.upper (by rw[upper_one hc];exact EV _) ⟨.str (S [up1 c]),H,I.tok _,⟨_,congrArg (fun z=>Value.str z _) (upper_one hc)⟩,q⟩
theorem jS:xh X "str.lower" (K5 lo1):=by
 intro pins s σ H x xs v us Q I rx rv h
 obtain ⟨c,rfl,rfl,hc,q⟩:=h
 obtain ⟨t,rfl⟩:=rx
 have e:us=[]:=by cases rv;rfl
 subst e
 exact SC.lower (by rw[og hc];exact EV _) ⟨.str (S [lo1 c]),H,I.tok _,⟨_,congrArg (fun z=>Value.str z _) (og hc)⟩,q⟩
theorem zO: ∀(ls:List (List Nat)) (a:Array Nat),(ls.map S).foldl (fun acc p=>acc++(S []).cps++p.cps) a=a++ls.flatten.toArray
 | [],a=>by simp
 | l::ls,a=>by
  rw[List.map_cons,List.foldl_cons,zO ls]
  simp[S]
theorem zP (ls:List (List Nat)):Txt.join (S []) (ls.map S)=S ls.flatten:=by
 unfold Txt.join Builtin.Str.glued
 cases ls with
 | nil=>rfl
 | cons l ls=>
  show Str.mk ((List.map S ls).foldl (fun acc p=>acc++(S []).cps++p.cps) (S l).cps)=_
  rw[zO]
  simp[S]
theorem js: ∀{ls:List (List Nat)} {us:List Value},Vals (ls.map fun l=>V.str (S l)) us->StrsAre us (ls.map S)
 | [],us,r=>by cases r;exact .nil
 | l::ls,us,r=>by
  cases r with
  | cons r1 r2=>
   obtain ⟨t,rfl⟩:=r1
   exact .cons _ t (js r2)
def zQ (K:PySem.W.Frag):V->List V->Hp->VK->Prop:=fun x vs H Q=> ∃(p:Addr) (ls:List (List Nat)),x= .str (S [])/\vs=[.ref p]/\aJ K H p (ls.map fun l=>V.str (S l))/\(ls.map List.length).sum<=16777216/\Q (.str (S ls.flatten)) H
theorem zR:xh X "str.join" (zQ X.K):=by
 intro pins s σ H x xs v us Q I rx rv h
 obtain ⟨p,ls,rfl,rfl,hq,hz,q⟩:=h
 obtain ⟨t,rfl⟩:=rx
 obtain ⟨u,rfl,ru⟩:=vals1 rv
 cases ru
 obtain ⟨aL,r,pl,_⟩:=I.list hq
 have e:(S []).length=0:=rfl
 refine join_list pl.isList (by simpa using js r) ?_ fun t' k=>?_
 ·rw[e,Nat.mul_zero,Nat.add_zero,List.map_map]
  have e2:(Str.length ∘ S)=List.length:=by funext l;exact d_ l
  have e3:((fun x:Str=>x.length) ∘ S)=List.length:=by funext l;exact d_ l
  first | (rw[e2];exact hz) | (rw[e3];exact hz)
 ·exact ⟨.str (S ls.flatten),H,I.tok _,⟨t',congrArg (fun z=>Value.str z t') (zP ls)⟩,q⟩
end
end L2
namespace L2.F2
open PySem PySem.Spec PyProof.Rows
end L2.F2
namespace L2
open PySem PySem.Spec PyProof.Rows
section
variable {prog:Program} {w:World} {A:Around} {E:Value->Shared->Prop} {s:Shared}
end
noncomputable def NR (xs:List V):It:=⟨fun i _=>i<xs.length,fun i H x H'=>H'=H/\xs[i]? =some x,fun i _=>xs.length<=i⟩
theorem dB {l:List Nat} {i:Nat} {x:V} (h:(bO l)[i]? =some x): ∃c,l[i]? =some c/\x= .str (S [c]):=by
 unfold bO at h
 rw[List.getElem?_map]at h
 cases e:l[i]? with
 | none=>rw[e]at h;cases h
 | some c=>rw[e]at h;cases h;exact ⟨c,rfl,rfl⟩
theorem aU (l:List Nat):(bO l).length=l.length:=by unfold bO;rw[List.length_map]
theorem zS {P:Program} {w:World} {K:PySem.W.Frag} {tg:Expr} (it:Addr) (l:List Nat) (t:Tok):Turn P w K tg (NR (bO l)) [it] it (fun i h=>h.IsStrIter it (strIterType (S l)) (S l) t i) where
 mem:=by simp
 obj:=fun i h st b hb=>by
  have e:b=it:=by simpa using hb
  subst e
  obtain ⟨o,e,c,d⟩:=st
  exact ⟨o,e,fun v z=>by rw[d]at z;cases z⟩
 keep:=fun i h h' st k=>let ⟨o,e,r⟩:=st;⟨o,k it (by simp) o e,r⟩
 item:=by
  intro X hP hw hK hc i pins s σ H E I hf st hg
  subst hP hw hK
  have Qg:i<l.length:=by have:i<(bO l).length:=hg;rwa [aU]at this
  obtain ⟨f0,f1,f2,f3,f4,f5⟩:=hf it (by simp)
  have fin: ∀(v:Value) (h':Heap) (tk:Nat),SignAt (S l) i v->h'.IsStrIter it (strIterType (S l)) (S l) t (i+1)->(∀b o,b∉[it]->s.heap.get? b=some o->h'.get? b=some o)->
    ∃u,some v=some u/\wpAny (model X.prog X.w) X.A (letOwnedTupleGo tg (.ref it) u) (fun _ s2=> ∃x H',Inv X pins σ H' s2/\RelV x u/\(NR (bO l)).yZ i H x H'/\s2.heap.IsStrIter it (strIterType (S l)) (S l) t (i+1)/\ ∀b∈[it],H' b=none) E { s with heap:=h',toks:=tk }:=by
   intro v h' tk hv tX kk
   obtain ⟨c,u,e1,e2⟩:=hv
   subst e2
   have I1:Inv X pins σ H { s with heap:=h',toks:=tk }:=I.turned (fun b o hb e=>kk b o (by simpa using hb) e) f0 f1 f3 f4 f5
   obtain ⟨o,e,cc,d⟩:=id tX
   refine ⟨_,rfl,vt (s:={ s with heap:=h',toks:=tk }) e cc d (by unfold strIterType;split<;>decide) ⟨.str (S [c]),H,I1,⟨u,rfl⟩,⟨rfl,?_⟩,tX,fun b hb=>(hf b hb).1⟩⟩
   unfold bO
   rw[List.getElem?_map]
   have Xy:l[i]? =some c:=by simpa [S]using e1
   rw[Xy]
   rfl
  have hsz:i<(S l).cps.size:=by rw[h7];exact Qg
  by_cases ha:(S l).cps.all (· <128)=true
  ·have et:strIterType (S l)="str_ascii_iterator":=by unfold strIterType;rw[if_pos ha]
   rw[et]at st
   exact (Walks.strAscii (prog:=X.prog) (w:=X.w) (I.ok.hd hc) it (S l) t).item i s _ _ hsz st fun v h' tk hv tX kk=>fin v h' tk hv (by rw[et];exact tX) kk
  ·have et:strIterType (S l)="str_iterator":=by unfold strIterType;rw[if_neg ha]
   rw[et]at st
   exact (Walks.strWide (prog:=X.prog) (w:=X.w) (I.ok.hd hc) it (S l) t).item i s _ _ hsz st fun v h' tk hv tX kk=>fin v h' tk hv (by rw[et];exact tX) kk
 done:=by
  intro X hP hw hK hc i pins s σ H E I hf st hg
  subst hP hw hK
  obtain ⟨f0,f1,f2,f3,f4,f5⟩:=hf it (by simp)
  have Qg:l.length<=i:=by have:(bO l).length<=i:=hg;rwa [aU]at this
  have hx:(S l).cps[i]? =none:=by rw[Array.getElem?_eq_none_iff,h7];exact Qg
  by_cases ha:(S l).cps.all (· <128)=true
  ·have et:strIterType (S l)="str_ascii_iterator":=by unfold strIterType;rw[if_pos ha]
   rw[et]at st
   exact wpAny_pyNext_ascii_end (I.ok.hd hc) st hx fun h' eb=>⟨rfl,I.turned (t':=s.toks) (fun b o hb e=>eb b o hb e) f0 f1 f3 f4 f5⟩
  ·have et:strIterType (S l)="str_iterator":=by unfold strIterType;rw[if_neg ha]
   rw[et]at st
   exact wpAny_pyNext_wide_end (I.ok.hd hc) st hx fun h' eb=>⟨rfl,I.turned (t':=s.toks) (fun b o hb e=>eb b o hb e) f0 f1 f3 f4 f5⟩
 self:=fun _ _ s _ _ st h=>by
  by_cases ha:(S l).cps.all (· <128)=true
  ·have et:strIterType (S l)="str_ascii_iterator":=by unfold strIterType;rw[if_pos ha]
   rw[et]at st
   exact wpAny_pyIter_striter_ascii st h
  ·have et:strIterType (S l)="str_iterator":=by unfold strIterType;rw[if_neg ha]
   rw[et]at st
   exact wpAny_pyIter_striter_wide st h
section
variable {X:Cx} {tg:Expr}
def Qh (tl:TE):TI:=fun σ H R=>tl σ H fun x H1=> ∃l,x= .str (S l)/\R (NR (bO l)) H1
theorem uu {l:Expr} {tl:TE} (hl:PE X l tl):PI X tg l (Qh tl):=by
 intro pins s σ H R I h
 refine bQ (hl pins s σ H _ I h) fun v s1 ⟨x,H1,I1,r1,q1⟩=>?_
 obtain ⟨l,rfl,q⟩:=q1
 obtain ⟨t,rfl⟩:=r1
 refine wpAny_pyIter_strU ?_
 refine ⟨s1.heap.objs.size,[s1.heap.objs.size],_,_,H1,rfl,I1.kept (t':=s1.toks) fun b o e=>Heap.get?_push_of_some _ e,zS _ l t,⟨_,Heap.get?_push_size _ rfl,rfl,rfl⟩,fun b hb=>?_,q⟩
 have e:b=s1.heap.objs.size:=by simpa using hb
 subst e
 exact I1.lS (Nat.le_refl _) (I1.aX.fresh (Nat.le_refl _))
end
theorem lK {J:It} {n:Nat} {xs:Nat->V->Prop} {σc:St} {g:TG} {tc:TT} {te:TE} {Q:VK} {H1:Hp} (Pv:Nat->List V->Hp->Prop) (hn:n<sizeLine) (Xz: ∀i acc H,i<n->Pv i acc H->J.go i H) (K6: ∀acc H,Pv n acc H->J.stop n H)
  (hy: ∀i acc H x H',i<n->Pv i acc H->J.yZ i H x H'->H'=H/\xs i x) (h0:Pv 0 [] H1)
  (hs: ∀(i:Nat) (x:V) (acc:List V) (H:Hp) (Nx:List V->Hp->Prop),i<n->xs i x->acc.length<=i->Pv i acc H->(∀bF H',bF.length<=i+1->Pv (i+1) bF H'->Nx bF H')->
   g x σc H fun σ2 H2=>Wk σc σ2/\tc σ2 H2 fun b H3=>if b=true then te σ2 H3 fun v H4=>Nx (acc++[v]) H4 else Nx acc H3)
  (hd: ∀acc H D,acc.length<=n->Pv n acc H->H D=none->Q (.ref D) (upd H D (.lst acc))):jR J σc g tc te Q H1:=by
 refine ⟨fun i m acc H=>m=n - i/\i<=n/\acc.length<=i/\Pv i acc H,⟨n,by simp,Nat.zero_le _,Nat.le_refl _,h0⟩,?_⟩
 rintro i m acc H ⟨rfl,hi,hl,p⟩
 refine ⟨by omega,?_⟩
 by_cases eK:i<n
 ·refine .inr ⟨Xz i acc H eK p,fun x H' y=>?_⟩
  obtain ⟨rfl,y2⟩:=hy i acc H x H' eK p y
  exact hs i x acc _ (fun bF H'=> ∃m',m'<n - i/\(m'=n - (i+1)/\i+1<=n/\bF.length<=i+1/\Pv (i+1) bF H')) eK y2 hl p fun bF H' h1 h2=>⟨n - (i+1),by omega,rfl,eK,h1,h2⟩
 ·have e:i=n:=by omega
  subst e
  exact .inl ⟨K6 acc H p,fun D hD=>hd acc H D hl p hD⟩
theorem me {xs:List V} {σc:St} {g:TG} {tc:TT} {te:TE} {Q:VK} {H1:Hp} (Pv:Nat->List V->Hp->Prop) (hn:xs.length<sizeLine) (h0:Pv 0 [] H1)
  (hs: ∀(i:Nat) (x:V) (acc:List V) (H:Hp) (Nx:List V->Hp->Prop),i<xs.length->xs[i]? =some x->acc.length<=i->Pv i acc H->(∀bF H',bF.length<=i+1->Pv (i+1) bF H'->Nx bF H')->
   g x σc H fun σ2 H2=>Wk σc σ2/\tc σ2 H2 fun b H3=>if b=true then te σ2 H3 fun v H4=>Nx (acc++[v]) H4 else Nx acc H3)
  (hd: ∀acc H D,acc.length<=xs.length->Pv xs.length acc H->H D=none->Q (.ref D) (upd H D (.lst acc))):jR (NR xs) σc g tc te Q H1:=
 lK (xs:=fun i x=>xs[i]? =some x) Pv hn (fun i _ _ h _=>h) (fun _ _ _=>Nat.le_refl _) (fun i _ H x H' _ _ y=>y) h0 hs hd
theorem jT {lo:Int} {n:Nat} {σc:St} {g:TG} {tc:TT} {te:TE} {Q:VK} {H1:Hp} (Pv:Nat->List V->Hp->Prop) (hn:n<sizeLine) (h0:Pv 0 [] H1)
  (hs: ∀(i:Nat) (acc:List V) (H:Hp) (Nx:List V->Hp->Prop),i<n->acc.length<=i->Pv i acc H->(∀bF H',bF.length<=i+1->Pv (i+1) bF H'->Nx bF H')->
   g (.int (lo+i)) σc H fun σ2 H2=>Wk σc σ2/\tc σ2 H2 fun b H3=>if b=true then te σ2 H3 fun v H4=>Nx (acc++[v]) H4 else Nx acc H3)
  (hd: ∀acc H D,acc.length<=n->Pv n acc H->H D=none->Q (.ref D) (upd H D (.lst acc))):jR (EI lo n) σc g tc te Q H1:=
 lK (xs:=fun i x=>x= .int (lo+i)) Pv hn (fun i _ _ h _=>h) (fun _ _ _=>Nat.le_refl _) (fun i _ H x H' _ _ y=>y) h0 (fun i x acc H Nx h1 h2=>by subst h2;exact hs i acc H Nx h1) hd
theorem iL {K:PySem.W.Frag} {a:Addr} {xs:List V} {σc:St} {g:TG} {tc:TT} {te:TE} {Q:VK} {H1:Hp} (Pv:Nat->List V->Hp->Prop) (hn:xs.length<sizeLine) (hl: ∀i acc H,Pv i acc H->aJ K H a xs) (h0:Pv 0 [] H1)
  (hs: ∀(i:Nat) (x:V) (acc:List V) (H:Hp) (Nx:List V->Hp->Prop),i<xs.length->xs[i]? =some x->acc.length<=i->Pv i acc H->(∀bF H',bF.length<=i+1->Pv (i+1) bF H'->Nx bF H')->
   g x σc H fun σ2 H2=>Wk σc σ2/\tc σ2 H2 fun b H3=>if b=true then te σ2 H3 fun v H4=>Nx (acc++[v]) H4 else Nx acc H3)
  (hd: ∀acc H D,acc.length<=xs.length->Pv xs.length acc H->H D=none->Q (.ref D) (upd H D (.lst acc))):jR (Jv K a) σc g tc te Q H1:=
 lK (xs:=fun i x=>xs[i]? =some x) Pv hn (fun i acc H h p=>⟨xs,xs[i],hl i acc H p,by simp[h]⟩) (fun acc H p=>⟨xs,hl _ acc H p,Nat.le_refl _⟩) (fun i acc H x H' h p y=>⟨y.1,y.2 xs (hl i acc H p)⟩) h0 hs hd
def CV (c:TT) (tb:TS):TS:=fun D σ H=> ∃W:Nat->St->Hp->Prop,(∃m,W m σ H)/\ ∀m σ H,W m σ H->
 c σ H fun b H1=>if b=true then tb { D with nx:=fun σ' H'=> ∃m',m'<m/\W m' σ' H',ct:=fun σ' H'=> ∃m',m'<m/\W m' σ' H',bk:=D.nx } σ H1 else D.nx σ H1
theorem oh {X:Cx} {c:Expr} {body:List Stmt} {tc:TT} {tb:TS} {pos:Pos} (hp:PassesOwn (model X.prog X.w) X.A X.env X.xe) (hc:PT X c tc) (hb:qM X body tb):PS X (.While c body [] pos) (CV tc tb):=by
 intro pins s σ H D I h
 obtain ⟨W,⟨m0,w0⟩,turn⟩:=h
 refine wpAny_While (codeAny_whileLoop (fun n s'=> ∃σ' H',Inv X pins σ' H' s'/\W n σ' H') ?_ m0 ⟨σ,H,I,w0⟩)
 rintro n s1 ⟨σ1,H1,I1,w1⟩
 refine wpAny_passesOwn hp (bQ (hc pins s1 σ1 H1 _ I1 (turn n σ1 H1 w1)) fun b s2 ⟨H2,I2,q2⟩=>?_)
 cases b with
 | true=>
  rw[if_pos rfl]at q2 ⊢
  refine wpAny_passesOwn hp (bQ (hb pins s2 σ1 H2 _ I2 q2) fun f s3 q3=>?_)
  cases f with
  | next=>
   obtain ⟨σ3,H3,I3,m',hm,w3⟩:=q3
   exact ⟨m',hm,σ3,H3,I3,w3⟩
  | cont=>
   obtain ⟨σ3,H3,I3,m',hm,w3⟩:=q3
   exact ⟨m',hm,σ3,H3,I3,w3⟩
  | brk=>exact q3
  | ret v=>exact q3
 | false=>
  rw[if_neg Bool.false_ne_true]at q2 ⊢
  exact wpAny_execs_nil ⟨σ1,H2,I2,q2⟩
noncomputable def pV (X:Cx) (scope:Scope):Bool:=(scope.names.all fun y=>y.2 != .cell)&&(scope.kind== .function)&&(scope.names.all fun y=>y.2 != .free||X.env.kindOf y.1==some .cell||X.env.kindOf y.1==some .free)&&(scope.names.all fun y=>y.2 != .local||scope.names.lookup y.1==some .local)
theorem jU {X:Cx} {scope:Scope} (h:pV X scope=true):(∀y∈scope.names,y.2≠ .cell)/\scope.kind= .function/\(∀y∈scope.names,y.2= .free->X.env.kindOf y.1=some .cell\/X.env.kindOf y.1=some .free)/\(∀x∈scope.names,x.2= .local->scope.names.lookup x.1=some .local):=by
 unfold pV at h
 simp only[Bool.and_eq_true]at h
 obtain ⟨⟨⟨h1,h2⟩,h3⟩,h4⟩:=h
 refine ⟨fun y hy e=>?_,by simpa using h2,fun y hy e=>?_,fun y hy e=>?_⟩
 ·have:=List.all_eq_true.mp h1 y hy
  rw[e]at this;simp at this
 ·have:=List.all_eq_true.mp h3 y hy
  rw[e]at this
  simpa using this
 ·have:=List.all_eq_true.mp h4 y hy
  rw[e]at this
  simpa using this
theorem bS {X:Cx} {tg iter elt:Expr} {ifs:List Expr} {scope:Scope} {pos:Pos} {wi:TI} {g:TG} {tc:TT} {te:TE} (Nc:List Str) (ix:List (Option Nat)) (hi:PI X tg iter wi) (uk:i_ X scope Nc ix)
  (hG: ∀C s H fp,PG (bK X scope C Nc s H fp) tg g) (hT: ∀C s H fp,PF (bK X scope C Nc s H fp) ifs tc) (hE: ∀C s H fp,PE (bK X scope C Nc s H fp) elt te) (aX:pV X scope=true:=by rfl) (jf:X.calm=true:=by rfl)
  (hs: ∀x,foldedSetIterable iter X.env x=pure x:=by intro _;rfl):PE X (.ListComp elt [⟨tg,iter,ifs,0⟩] scope pos) (qY wi ix g tc te):=
 let ⟨h1,h2,h3,h4⟩:=jU aX
 CP Nc ix hi jf uk h1 h2 h3 h4 hG hT hE hs
theorem zT {X:Cx} {i:Nat} {x:Str} {tg iter elt:Expr} {ifs:List Expr} {scope:Scope} {pos zL pos':Pos} {wi:TI} {g:TG} {tc:TT} {te:TE} (Nc:List Str) (ix:List (Option Nat)) (hN:X.N.Nodup) (KS:X.N[i]? =some x) (hx:Loc X.env.scope x)
  (hi:PI X tg iter wi) (uk:i_ X scope Nc ix)
  (hG: ∀C s H fp,PG (bK X scope C Nc s H fp) tg g) (hT: ∀C s H fp,PF (bK X scope C Nc s H fp) ifs tc) (hE: ∀C s H fp,PE (bK X scope C Nc s H fp) elt te)
  (Jz:swapsWith (.ListComp elt [⟨tg,iter,ifs,0⟩] scope pos) (some (.Name x pos')) zL.line X.env=pure true:=by rfl) (aX:pV X scope=true:=by rfl) (jf:X.calm=true:=by rfl)
  (hs: ∀x,foldedSetIterable iter X.env x=pure x:=by intro _;rfl) (hf:X.fn x=true\/X.env.scope.names.lookup x=some .local:=by first | exact .inl rfl | exact .inr rfl | assumption):
  PS X (.Assign [.Name x pos'] (.ListComp elt [⟨tg,iter,ifs,0⟩] scope pos) zL) (Cv (qY wi ix g tc te) (vq i)):=
 let ⟨h1,h2,h3,h4⟩:=jU aX
 CQ Nc ix hN KS hx Jz hi jf uk h1 h2 h3 h4 hG hT hE hs hf
section
variable {X:Cx}
def Qi:R2:=fun x y H Q=> ∃a b,x= .str (S a)/\y= .str (S b)/\Q (.bl (decide (a=b))) H
def Qj:R2:=fun x y H Q=> ∃a b,x= .str (S a)/\y= .str (S b)/\Q (.bl (!decide (a=b))) H
theorem h_:gc X (compareOp .Eq) Qi:=by
 intro pins s σ H x y v u Q I rx ry h
 obtain ⟨a,b,rfl,rfl,q⟩:=h
 exact EL pins s σ H _ _ v u Q I rx ry ⟨rfl,by rw[EU];exact q⟩
theorem uw:gc X (compareOp .NotEq) Qj:=by
 intro pins s σ H x y v u Q I rx ry h
 obtain ⟨a,b,rfl,rfl,q⟩:=h
 exact EM pins s σ H _ _ v u Q I rx ry ⟨rfl,by rw[EU];exact q⟩
theorem EW {i j:Int}:decide (V.int i=V.int j)=decide (i=j):=by
 by_cases h:i=j
 ·subst h;simp
 ·rw[decide_eq_false h,decide_eq_false]
  intro q
  exact h (V.int.inj q)
theorem uz:gc X (compareOp .Eq) (w9 fun i j=> .bl (decide (i=j))):=by
 intro pins s σ H x y v u Q I rx ry h
 obtain ⟨a,b,rfl,rfl,q⟩:=h
 exact EL pins s σ H _ _ v u Q I rx ry ⟨rfl,by rw[EW];exact q⟩
theorem GF:gc X (compareOp .NotEq) (w9 fun i j=> .bl (!decide (i=j))):=by
 intro pins s σ H x y v u Q I rx ry h
 obtain ⟨a,b,rfl,rfl,q⟩:=h
 exact EM pins s σ H _ _ v u Q I rx ry ⟨rfl,by rw[EW];exact q⟩
end
end L2
namespace L2
open PySem PySem.Spec PyProof.Rows
section
variable {X:Cx} {tg:Expr}
theorem aH (K:PySem.W.Frag) (h:X.K=K):Gk X (Gm K):=by subst h;exact CH
theorem aF (K:PySem.W.Frag) (h:X.K=K):Gk X (Kx K):=by subst h;exact Gn
def EX (K:PySem.W.Frag):List V->Hp->VK->Prop:=fun xs H Q=> ∃p ys,xs=[.ref p]/\(aJ K H p ys\/aN K H p ys)/\Q (.int ys.length) H
theorem ax (K:PySem.W.Frag) (h:X.K=K):cS X (.builtin "len") (EX K):=by subst h;exact pO
theorem mf (K:PySem.W.Frag) (h:X.K=K):xh X "str.join" (zQ K):=by subst h;exact zR
def vJ (K:PySem.W.Frag):List V->Hp->VK->Prop:=fun xs H Q=> ∃p ys,xs=[.ref p]/\(aJ K H p ys\/aN K H p ys)/\ ∀l,H l=none->Q (.ref l) (upd H l (.lst ys))
theorem cZ (K:PySem.W.Frag) (h:X.K=K):cS X (.type "list") (vJ K):=by subst h;exact pQ
theorem q8 (K:PySem.W.Frag) (h:X.K=K):NN X (Kz K):=by subst h;exact CI
theorem eP (K:PySem.W.Frag) (h:X.K=K) {l:Expr} {tl:TE} (hl:PE X l tl):PI X tg l (EJ K tl):=by subst h;exact Cw hl
theorem vK (K:PySem.W.Frag) (h:X.K=K) {l:Expr} {tl:TE} (hl:PE X l tl):PI X tg l (Kk K tl):=by subst h;exact FY hl
end
section
variable {X:Cx} {o e:Expr} {es:List Expr} {to:TE} {t:TA} {name:Str} {apos dX:Pos} {T id:String} {r:V->List V->Hp->VK->Prop}
theorem gH (K:PySem.W.Frag) (hK:X.K=K) (pa:PlainAttrs T) (slot:Slot T name id) (B_:typeOf (.builtin id)=pure (.type "method_descriptor")) (hm:xh X id r) (ho:PE X o to)
  (lW:attributeBase o name X.env (eval o X.env)=eval o X.env:=by rfl) (lX:(apos.endLine==dX.line)=true:=by rfl):PE X (.Call (.Attribute o name apos) [] [] dX) (KA K T r to):=by
 subst hK
 exact Gs pa slot B_ hm ho lW lX
theorem bB (K:PySem.W.Frag) (hK:X.K=K) (pa:PlainAttrs T) (slot:Slot T name id) (B_:typeOf (.builtin id)=pure (.type "method_descriptor")) (hm:xh X id r) (ho:PE X o to) (ha:PA X (e::es) t)
  (lW:attributeBase o name X.env (eval o X.env)=eval o X.env:=by rfl)
  (Gu:((backTo dX (starEach (e::es) X.env)).all (fun x=>!x.1)&&(backToKw dX (keywordEach [] X.env)).all (fun x=>x.1.isSome)
   &&decide ((e::es).length+([]:List Keyword).length+(if ([]:List Keyword).isEmpty then 0 else 1)<30))=true:=by rfl)
  (lX:(apos.endLine==dX.line)=true:=by rfl) (hs:starEach (e::es) X.env=(false,eval e X.env)::starEach es X.env:=by rfl) (ui:(backTo dX (starEach es X.env)).any (·.1)=false:=by rfl):
  PE X (.Call (.Attribute o name apos) (e::es) [] dX) (U5 K T r to t):=by
 subst hK
 exact KC pa slot B_ hm ho ha lW Gu lX hs ui
end
end L2
namespace L2
open PySem PySem.Spec PyProof.Rows
mutual
inductive lF (K:PySem.W.Frag) (H:Hp):V->PyData->Prop
 | bY:lF K H .bY .none
 | bl (b:Bool):lF K H (.bl b) (.bool b)
 | int (i:Int):lF K H (.int i) (.int i)
 | str (x:Str):lF K H (.str x) (.str x)
 | lst {a:Addr} {xs:List V} {ds:List PyData} (h:aJ K H a xs) (r:gj K H xs ds):lF K H (.ref a) (.list ds)
 | tup {a:Addr} {xs:List V} {ds:List PyData} (h:aN K H a xs) (r:gj K H xs ds):lF K H (.ref a) (.tuple ds)
inductive gj (K:PySem.W.Frag) (H:Hp):List V->List PyData->Prop
 | nil:gj K H [] []
 | cons {x:V} {xs:List V} {d:PyData} {ds:List PyData} (h:lF K H x d) (r:gj K H xs ds):gj K H (x::xs) (d::ds)
end
section
variable {X:Cx} {pins:List (Addr×Obj)} {σ:St} {H:Hp} {s:Shared}
mutual
theorem lF.reads (I:Inv X pins σ H s): ∀{x:V} {d:PyData} {u:Value},lF X.K H x d->RelV x u-> ∃as,Reads s.heap u d as
 | _,_,u, .bY,r=>by cases (show u=Value.none from r);exact ⟨_, .none⟩
 | _,_,u, .bl b,r=>by cases (show u=Value.bool b from r);exact ⟨_, .bool b⟩
 | _,_,u, .int i,r=>by obtain ⟨t,rfl⟩:=r;exact ⟨_, .int i t⟩
 | _,_,u, .str x,r=>by obtain ⟨t,rfl⟩:=r;exact ⟨_, .str x t⟩
 | _,_,u, .lst (a:=a) h q,r=>by
  cases (show u=Value.ref a from r)
  obtain ⟨aL,rv,pl,_⟩:=I.list h
  obtain ⟨as,ra⟩:=gj.reads I q rv
  obtain ⟨o,ho,hc,n,hd⟩:=pl.isList
  exact ⟨_, .list ho hc hd (by simpa using ra)⟩
 | _,_,u, .tup (a:=a) h q,r=>by
  cases (show u=Value.ref a from r)
  obtain ⟨aL,rv,pl,_⟩:=I.tuple h
  obtain ⟨as,ra⟩:=gj.reads I q rv
  obtain ⟨o,ho,hc,n,hd⟩:=pl
  exact ⟨_, .tuple ho hc hd (by simpa using ra)⟩
theorem gj.reads (I:Inv X pins σ H s): ∀{xs:List V} {ds:List PyData} {us:List Value},gj X.K H xs ds->Vals xs us-> ∃as,ReadsAll s.heap us ds as
 | _,_,us, .nil,r=>by cases r;exact ⟨_, .nil⟩
 | _,_,us, .cons h q,r=>by
  cases r with
  | cons r1 r2=>
   obtain ⟨as,ra⟩:=lF.reads I h r1
   obtain ⟨bs,rb⟩:=gj.reads I q r2
   exact ⟨_, .cons ra rb⟩
end
mutual
theorem lF.noDict {K:PySem.W.Frag}: ∀{x:V} {d:PyData},lF K H x d->d.hasDict=false
 | _,_, .bY=>rfl
 | _,_, .bl b=>rfl
 | _,_, .int i=>rfl
 | _,_, .str x=>rfl
 | _,_, .lst h q=>by show PyData.hasDictAll _=false;exact gj.noDict q
 | _,_, .tup h q=>by show PyData.hasDictAll _=false;exact gj.noDict q
theorem gj.noDict {K:PySem.W.Frag}: ∀{xs:List V} {ds:List PyData},gj K H xs ds->PyData.hasDictAll ds=false
 | _,_, .nil=>rfl
 | _,_, .cons h q=>by
  show (PyData.hasDict _||PyData.hasDictAll _)=false
  rw[lF.noDict h,gj.noDict q];rfl
end
end
section
variable {X:Cx}
def Ql (K:PySem.W.Frag):R2:=fun x y H Q=> ∃dx dy,lF K H x dx/\lF K H y dy/\(dx.canLay0=true/\dy.canLay0=true)/\dx.depth<=60/\Q (.bl (PyData.eqv dx dy)) H
def Qm (K:PySem.W.Frag):R2:=fun x y H Q=> ∃dx dy,lF K H x dx/\lF K H y dy/\(dx.canLay0=true/\dy.canLay0=true)/\dx.depth<=60/\Q (.bl (!PyData.eqv dx dy)) H
theorem zU {k:Nat} (K:PySem.W.Frag) (h:X.K=K) (hr:dA k X.A):gc X (compareOp .Eq) (Ql K):=by
 subst h
 intro pins s σ H x y v u Q I rx ry h
 obtain ⟨dx,dy,h1,h2,⟨h3,h4⟩,h5,q⟩:=h
 obtain ⟨as,ra⟩:=h1.reads I rx
 obtain ⟨bs,rb⟩:=h2.reads I ry
 have hu:=hr.units
 exact SeqAt.compareEq_reads ra rb h3 h4 (by omega) ⟨.bl _,H,I,rfl,q⟩
theorem zV {k:Nat} (K:PySem.W.Frag) (h:X.K=K) (hr:dA k X.A):gc X (compareOp .NotEq) (Qm K):=by
 subst h
 intro pins s σ H x y v u Q I rx ry h
 obtain ⟨dx,dy,h1,h2,⟨h3,h4⟩,h5,q⟩:=h
 obtain ⟨as,ra⟩:=h1.reads I rx
 obtain ⟨bs,rb⟩:=h2.reads I ry
 have hu:=hr.units
 exact SeqAt.compareNe_reads ra rb h3 h4 (by omega) ⟨.bl _,H,I,rfl,q⟩
theorem ck (K:PySem.W.Frag) (h:X.K=K) {es:List Expr} {k:Nat} {t:B8} {n:Nat} {pos:Pos} (hc:X.calm=true) (hs:Ju X es t)
  (hn:(assignEach es X.env).length=n:=by rfl) (Kj:(assignEach es X.env).findIdx? (·.1)=none:=by rfl):PG X (.Tuple es k pos) (Ki K n t):=by
 subst h
 exact FX hc hs hn Kj
end
end L2
namespace L2
open PySem PySem.Spec PyProof.Rows
noncomputable def GG (a b:List Nat):List Nat:=if b<a then b else a
noncomputable def vL:List Nat->List (List Nat)->List Nat
 | a,[]=>a
 | a,b::r=>vL (GG a b) r
section
variable {X:Cx}
end
end L2
namespace L2
open PySem PySem.Spec PyProof.Rows
section
variable {X:Cx}
theorem kz (K:PySem.W.Frag) (h:X.K=K):gc X (compareOp .In) (NO K false):=by subst h;exact xj
theorem vM (K:PySem.W.Frag) (h:X.K=K):gc X (compareOp .NotIn) (NO K true):=by subst h;exact pN
structure oj (k n:Nat) (d:PyData):Prop where
 lv:d.leavesShort 13=true
 sh:d.showable=true
 ly:d.canLay0=true
 dp:d.depth<=k
 wt:d.weight<=n
structure mh (k n:Nat) (ds:List PyData):Prop where
 lv:PyData.leavesShortAll 13 ds=true
 sh:PyData.showableAll ds=true
 ly:PyData.canLayAll0 ds=true
 dp:PyData.depthAll ds<=k
 wt:PyData.weightAll ds<=n
theorem oj.str {k n:Nat} {l:List Nat} (h: ∀c∈l,c<128) (hn:l.length<=n):oj k n (.str (S l)):=by
 refine ⟨?_,rfl,?_,Nat.zero_le _,by show (S l).cps.size<=n;rw[h7];exact hn⟩
 ·show ((S l).cps.toList.all fun c=>decide (c<16 ^ 8))=true
  rw[fA,List.all_eq_true]
  intro c hc
  have:=h c hc
  exact decide_eq_true (by omega)
 ·show PyData.strOk (S l)=true
  unfold PyData.strOk
  rw[Array.all_eq_true_iff_forall_mem]
  intro c hc
  have:c∈l:=by simpa [S]using hc
  have:=h c this
  simp;omega
theorem oj.int {k n:Nat} {i:Int} (h:i.natAbs<10 ^ 12) (hn:40<=n):oj k n (.int i):=by
 have hl:i.natAbs.log2<40:=by
  by_cases z:i.natAbs=0
  ·rw[z];decide
  ·rw[Nat.log2_lt z]
   exact Nat.lt_trans h (by decide)
 refine ⟨?_,?_,rfl,Nat.zero_le _,?_⟩
 ·show decide ((PyData.shown (.int i)).length<=13)=true
  exact decide_eq_true (PyData.shown_int_le h)
 ·show decide (i.natAbs.log2<1920)=true
  exact decide_eq_true (by omega)
 ·show (if i==0 then 0 else i.natAbs.log2+1)<=n
  split<;>omega
theorem mh.nil {k n:Nat}:mh k n []:=⟨rfl,rfl,rfl,Nat.zero_le _,Nat.zero_le _⟩
theorem mh.cons {k a b n:Nat} {x:PyData} {xs:List PyData} (h:oj k a x) (t:mh k b xs) (hn:a+1+b<=n):mh k n (x::xs):=by
 refine ⟨?_,?_,?_,?_,?_⟩
 ·show (PyData.leavesShort 13 x&&PyData.leavesShortAll 13 xs)=true;rw[h.lv,t.lv];rfl
 ·show (PyData.showable x&&PyData.showableAll xs)=true;rw[h.sh,t.sh];rfl
 ·show (PyData.canLay0 x&&PyData.canLayAll0 xs)=true;rw[h.ly,t.ly];rfl
 ·show max (PyData.depth x) (PyData.depthAll xs)<=k;exact Nat.max_le.mpr ⟨h.dp,t.dp⟩
 ·show PyData.weight x+1+PyData.weightAll xs<=n
  have:=h.wt;have:=t.wt;omega
theorem mh.all {k a:Nat}: ∀{xs:List PyData} {n:Nat},(∀x∈xs,oj k a x)->(a+1)*xs.length<=n->mh k n xs
 | [],_,_,_=> .nil
 | x::xs,n,h,hn=> .cons (b:=(a+1)*xs.length) (h x List.mem_cons_self) (mh.all (fun y hy=>h y (List.mem_cons_of_mem _ hy)) (Nat.le_refl _)) (by rw[List.length_cons,Nat.mul_succ]at hn;omega)
theorem oj.lst {k n:Nat} {ds:List PyData} (h:mh k n ds):oj (k+1) n (.list ds):=⟨h.lv,h.sh,h.ly,Nat.succ_le_succ h.dp,h.wt⟩
theorem oj.tup {k n:Nat} {ds:List PyData} (h:mh k n ds):oj (k+1) n (.tuple ds):=⟨h.lv,h.sh,h.ly,Nat.succ_le_succ h.dp,h.wt⟩
theorem oj.fits {k n:Nat} {d:PyData} (h:oj k n d) (hn:n<=2 ^ 20):d.shown.length<=sizeLine:=PyData.shown_fits (by decide) (by decide) h.lv (Nat.le_trans h.wt hn)
noncomputable def RT (d:PyData):List Nat:=d.shown.cps.toList
def GH (K:PySem.W.Frag):List V->Hp->VK->Prop:=fun xs H Q=> ∃v d,xs=[v]/\lF K H v d/\oj 40 100000 d/\Q (.str (S (RT d))) H
theorem mi {k:Nat} (K:PySem.W.Frag) (h:X.K=K) (hr:dA k X.A):cS X (.builtin "repr") (GH K):=by
 subst h
 intro pins s σ H xs us Q I r h
 obtain ⟨v,d,rfl,h1,h2,q⟩:=h
 have hz:=h2.fits (by decide)
 obtain ⟨u,rfl,ru⟩:=vals1 r
 unfold RT at q
 rw[<-KW]at q
 have EY: ∀(a:Addr) (d:PyData),lF X.K H (.ref a) d->oj 40 100000 d->d.shown.length<=sizeLine->Q (.str d.shown) H->u=Value.ref a->wpAny (model X.prog X.w) X.A (call (.builtin "repr") [u]) (EP X pins σ Q) X.xe s:=by
  intro a d h1 h2 hz q e
  obtain ⟨as,ra⟩:=h1.reads I (show RelV (.ref a) u from e)
  subst e
  have hu:=hr.units
  have:=h2.dp
  exact repr_of_reads' (h₀:=s.heap) ra h2.sh (fun z=>by rw[h1.noDict]at z;cases z) hr.gd (by omega) (fun _ _ e=>e) (fun h' u tk hk=>⟨.str d.shown,H,I.kept (t':=tk) hk,⟨u,rfl⟩,q⟩) hz
 cases h1 with
 | bY=>cases (show u=Value.none from ru);exact P.repr_of_none ⟨.str _,H,I.tok _,⟨_,rfl⟩,q⟩
 | bl b=>cases (show u=Value.bool b from ru);exact P.repr_of_bool ⟨.str _,H,I.tok _,⟨_,rfl⟩,by cases b<;>exact q⟩
 | int i=>
  obtain ⟨t,rfl⟩:=ru
  exact P.repr_of_int (of_decide_eq_true h2.sh) ⟨.str _,H,I.tok _,⟨_,rfl⟩,q⟩
 | str x=>
  obtain ⟨t,rfl⟩:=ru
  exact P.repr_of_str ⟨.str _,H,I.tok _,⟨_,rfl⟩,q⟩ hz
 | lst h1 h3=>exact EY _ _ (.lst h1 h3) h2 hz q ru
 | tup h1 h3=>exact EY _ _ (.tup h1 h3) h2 hz q ru
end
end L2
namespace L2
open PySem PySem.Spec PyProof.Rows
end L2
namespace L2
open PySem PySem.Spec PyProof.Rows
section
variable {X:Cx}
end
end L2
namespace L2
open PySem PySem.Spec PyProof.Rows
section
variable {X:Cx} {pins:List (Addr×Obj)} {σ:St} {H:Hp} {s:Shared} {h':Heap}
theorem Inv.ic {t':Nat} {ch:List Addr} {T:Addr} {ob:HO} (I:Inv X pins σ H s) (k: ∀b o,b∉ch->s.heap.get? b=some o->h'.get? b=some o) (hf: ∀b∈ch,km X pins H b)
  (hT:s.heap.objs.size<=T) (new:bG X.prog X.w (upd H T ob) h' T ob):Inv X pins σ (upd H T ob) { s with heap:=h',toks:=t' }:=by
 have hn:=I.aX.fresh hT
 have EE: ∀b u,H b=some u->b∉ch:=fun b u e z=>by rw[(hf b z).1]at e;cases e
 have neT: ∀b o,s.heap.get? b=some o->b≠T:=fun b o e z=>absurd (Nat.lt_of_lt_of_le (Heap.lt_size e) hT) (by rw[z];exact Nat.lt_irrefl _)
 refine I.step (g':=s.gens) (d':=s.drawn) (ch:=ch) (fun b hb=>?_) (fun b o _ _ hc e _=>k b o hc e) (fun b o _ _ hc e _=>⟨o.slots,k b o hc e⟩) (fun b o _ e n=>by rw[aj (neT b o e)];exact n)
  (fun b o hc e=>⟨o,k b o hc e⟩) (fun b xs e=>by rw[aj (ao e hn)];exact e) (fun b o u e=>by rw[aj (ao e hn)];exact e) (fun b ps e=>⟨#[],by rw[aj (ao e hn),e];simp⟩) (fun m hm=>?_) (fun b u e=>?_) I.bare
 ·obtain ⟨_,h2,_,h4,h5,h6⟩:=hf b hb
  exact ⟨h4,h2,h5,h6⟩
 ·obtain ⟨o,es,ep,ho,r⟩:=hm
  exact ⟨o,es,ep,k _ o (fun z=>(hf _ z).2.1 rfl) ho,r⟩
 ·by_cases hb:b=T
  ·subst hb;rw[ae]at e;cases e;exact new
  ·rw[aj hb]at e
   refine (I.aX b u e).lA (fun c v hc q=>k c v ?_ q) (fun c q=>by rw[aj (ao q hn)];exact q) fun c xs q=>by rw[aj (ao q hn)];exact q
   rcases hc with z | z
   ·rw[z];exact EE b u e
   ·exact EE c _ z
theorem Inv.jV {t':Nat} {ch:List Addr} (I:Inv X pins σ H s) (k: ∀b o,b∉ch->s.heap.get? b=some o->h'.get? b=some o) (hf: ∀b∈ch,km X pins H b):Inv X pins σ H { s with heap:=h',toks:=t' }:=by
 have EE: ∀b u,H b=some u->b∉ch:=fun b u e z=>by rw[(hf b z).1]at e;cases e
 refine I.step (g':=s.gens) (d':=s.drawn) (ch:=ch) (fun b hb=>?_) (fun b o _ _ hc e _=>k b o hc e) (fun b o _ _ hc e _=>⟨o.slots,k b o hc e⟩) (fun b o _ e n=>n)
  (fun b o hc e=>⟨o,k b o hc e⟩) (fun b xs e=>e) (fun b o u e=>e) (fun b ps e=>⟨#[],by rw[e];simp⟩) (fun m hm=>?_) (fun b u e=>?_) I.bare
 ·obtain ⟨_,h2,_,h4,h5,h6⟩:=hf b hb
  exact ⟨h4,h2,h5,h6⟩
 ·obtain ⟨o,es,ep,ho,r⟩:=hm
  exact ⟨o,es,ep,k _ o (fun z=>(hf _ z).2.1 rfl) ho,r⟩
 ·refine (I.aX b u e).lA (fun c v hc q=>k c v ?_ q) (fun c q=>q) fun c xs q=>q
  rcases hc with z | z
  ·rw[z];exact EE b u e
  ·exact EE c _ z
end
noncomputable def JA (l:List Nat):It:=⟨fun i _=>i<l.length,fun i H x H'=> ∃T c,l[i]? =some c/\x= .ref T/\H T=none/\H'=upd H T (.tup [.int i, .str (S [c])]),fun i _=>l.length<=i⟩
theorem om {prog:Program} {w:World} {A:Around} (hh:A.handled=none) (it:Addr) (x:Str) (t:Tok):
  Draws prog w A it [it] x.cps.size (fun i v=> ∃c u,x.cps[i]? =some c/\v= .str ⟨#[c]⟩ u) (fun i h=>h.IsStrIter it (strIterType x) x t i):=by
 by_cases ha:x.cps.all (· <128)=true
 ·have et:strIterType x="str_ascii_iterator":=by unfold strIterType;rw[if_pos ha]
  rw[et];exact Draws.strAscii hh it x t
 ·have et:strIterType x="str_iterator":=by unfold strIterType;rw[if_neg ha]
  rw[et];exact Draws.strWide hh it x t
theorem uA {P:Program} {w:World} {K:PySem.W.Frag} {elts:List Expr} {k:Nat} {pos:Pos} (e it:Addr) (vN:e≠it) (l:List Nat) (t:Tok):
  Turn P w K (.Tuple elts k pos) (JA l) [e,it] e (fun i h=>i<=l.length/\(∃old,IsEnum h e it i old)/\h.IsStrIter it (strIterType (S l)) (S l) t i) where
 mem:=by simp
 obj:=fun i h st b hb=>by
  obtain ⟨_,⟨old,he⟩,o,ho,hc,hd⟩:=st
  rcases List.mem_cons.mp hb with z | z
  ·rw[z];exact ⟨_,he,fun v z=>by cases z⟩
  ·rw[List.mem_singleton.mp z];exact ⟨o,ho,fun v z=>by rw[hd]at z;cases z⟩
 keep:=fun i h h' st kp=>by
  obtain ⟨h1,⟨old,he⟩,o,ho,r⟩:=st
  exact ⟨h1,⟨old,kp e (by simp) _ he⟩,o,kp it (by simp) o ho,r⟩
 item:=by
  intro X hP hw hK hc i pins s σ H E I hf st hg
  subst hP hw hK
  obtain ⟨_,mj,iJ⟩:=st
  have D:=om (prog:=X.prog) (w:=X.w) (A:=X.A.in1) (I.ok.hd hc) it (S l) t
  have W:=WalksT.enumerateD D e vN (by simpa using vN) (by simp)
  have hi:i<(S l).cps.size:=by rw[h7];exact hg
  refine W.item i s _ _ hi ⟨mj,iJ⟩ fun T vals h' tk K7 hT zW q9 hk=>⟨_,rfl,?_⟩
  refine W.go elts k pos i T { s with heap:=h',toks:=tk } _ _ q9 fun h2 q_ Cb=>?_
  obtain ⟨tt,x,⟨c,u,K8,rfl⟩,rfl⟩:=K7
  have zc:T∉[e,it]:=W.apart i T h' q9
  have jW:h2.IsTuple T #[.int i tt, .str ⟨#[c]⟩ u]:=by
   obtain ⟨o,ho,r⟩:=zW
   exact ⟨o,Cb T o zc ho,r⟩
  have hl:l[i]? =some c:=by simpa [S]using K8
  refine ⟨.ref T,upd H T (.tup [.int i, .str (S [c])]),?_,rfl,⟨T,c,hl,rfl,I.aX.fresh hT,rfl⟩,⟨hg,q_.1,q_.2⟩,fun b hb=>?_⟩
  ·refine I.ic (t':=tk) (h':=h2) (fun b o hb y=>Cb b o hb (hk b o hb y)) hf hT ?_
   exact ⟨by show 2<=sizeLine;decide,[.int i tt, .str ⟨#[c]⟩ u], .cons ⟨tt,rfl⟩ (.cons ⟨u,rfl⟩ .nil),jW⟩
  ·rw[aj (fun z:b=T=>zc (z▸hb))];exact (hf b hb).1
 done:=by
  intro X hP hw hK hc i pins s σ H E I hf st hg
  subst hP hw hK
  obtain ⟨h1,mj,iJ⟩:=st
  have e1:i=l.length:=Nat.le_antisymm h1 hg
  have D:=om (prog:=X.prog) (w:=X.w) (A:=X.A.in1) (I.ok.hd hc) it (S l) t
  have W:=WalksT.enumerateD D e vN (by simpa using vN) (by simp)
  refine W.done s _ _ ?_ fun h' tk hk=>⟨rfl,I.jV (t':=tk) hk hf⟩
  rw[h7, <-e1]
  exact ⟨mj,iJ⟩
 self:=fun _ _ s _ _ st h=>by
  obtain ⟨_,⟨old,he⟩,_⟩:=st
  exact wpAny_pyIter_enum he h
def GI (ta:TA):TI:=fun σ H R=>ta σ H fun vs H1=> ∃l,vs=[.str (S l)]/\R (JA l) H1
theorem rf {X:Cx} {elts:List Expr} {k:Nat} {pos':Pos} {a:Expr} {ta:TA} {p pos:Pos} (hg:Gl X "enumerate") (hm:X.mg "enumerate"=none) (ha:PA X [a] ta) (hs:starEach [a] X.env=[(false,eval a X.env)]:=by rfl):PI X (.Tuple elts k pos') (.Call (.Name "enumerate" p) [a] [] pos) (GI ta):=by
 intro pins s σ H R I h
 refine Call_ (dz I hg hm boot_enumerate (PyProof.Rows.callWith_type1 (bQ (ha pos pins s σ H _ I h) fun us s1 ⟨vs,H1,I1,r1,q1⟩=>?_) hs rfl))
 obtain ⟨l,rfl,q⟩:=q1
 obtain ⟨u,rfl,t,rfl⟩:=vals1 r1
 refine call_enumerate_str fun h' he hit hsz hk=>?_
 refine wpAny_pyIter_enum he ?_
 refine ⟨s1.heap.objs.size+1,[s1.heap.objs.size+1,s1.heap.objs.size],_,_,H1,rfl,I1.kept (t':=s1.toks) hk,uA _ _ (Nat.succ_ne_self _) l t,⟨Nat.zero_le _,⟨_,he⟩,hit⟩,fun b hb=>?_,q⟩
 have gQ:s1.heap.objs.size<=b:=by
  rcases List.mem_cons.mp hb with z | z
  ·rw[z];exact Nat.le_succ _
  ·rw[List.mem_singleton.mp z];exact Nat.le_refl _
 exact I1.lS gQ (I1.aX.fresh gQ)
theorem zX {l:List Nat} {g:TG} {tb:TS} {D:Ends} {σ:St} {H:Hp} (Pv:Nat->St->Hp->Prop) (h0:Pv 0 σ H)
  (hs: ∀i c σ H T,l[i]? =some c->Pv i σ H->H T=none->g (.ref T) σ (upd H T (.tup [.int i, .str (S [c])])) fun σ2 H2=>tb { D with nx:=Pv (i+1),ct:=Pv (i+1),bk:=D.nx } σ2 H2) (hd: ∀σ H,Pv l.length σ H->D.nx σ H):
  ∃W:Nat->Nat->St->Hp->Prop,(∃m,W 0 m σ H)/\ ∀i m σ H,W i m σ H->
   ((JA l).stop i H/\D.nx σ H)\/((JA l).go i H/\ ∃N:St->Hp->Prop,(∀σ' H',N σ' H'-> ∃m',m'<m/\W (i+1) m' σ' H')/\ ∀x H',(JA l).yZ i H x H'->g x σ H' fun σ2 H2=>tb { D with nx:=N,ct:=N,bk:=D.nx } σ2 H2):=by
 refine ⟨fun i m σ H=>m=l.length - i/\i<=l.length/\Pv i σ H,⟨l.length,by simp,Nat.zero_le _,h0⟩,?_⟩
 rintro i m σ H ⟨rfl,hi,p⟩
 by_cases eK:i<l.length
 ·refine .inr ⟨eK,Pv (i+1),fun σ' H' p'=>⟨l.length - (i+1),by omega,rfl,eK,p'⟩,fun x H' y=>?_⟩
  obtain ⟨T,c,hc,rfl,hn,rfl⟩:=y
  exact hs i c σ _ T hc p hn
 ·have e:i=l.length:=by omega
  subst e
  exact .inl ⟨Nat.le_refl _,hd σ H p⟩
section
variable {X:Cx}
theorem CW {ls:List (List Nat)}: ∀{aL:List Value},Vals (ls.map fun l=>V.str (S l)) aL->StrsAre aL (ls.map S):=by
 induction ls with
 | nil=>intro aL r;cases r;exact .nil
 | cons l ls ih=>
  intro aL r
  cases r with
  | cons r1 r2=>
   obtain ⟨t,rfl⟩:=r1
   exact .cons _ t (ih r2)
theorem vO: ∀{aL:List Value} {ss:List Str},StrsAre aL ss->Vals ((ss.map fun x=>x.cps.toList).map fun l=>V.str (S l)) aL
 | _,_, .nil=> .nil
 | _,_, .cons x t h=> .cons ⟨t,by rw[<-KW]⟩ (vO h)
theorem oq: ∀(p:Str) (r:List Str),risingS p r=true->(p::r).Pairwise fun a b=> ¬b.cps.toList<a.cps.toList
 | p,[],_=>List.pairwise_singleton _ _
 | p,x::r,h=>by
  have h':(!ltCps x.cps.toList p.cps.toList&&risingS x r)=true:=h
  rw[Bool.and_eq_true,ltCps_eq]at h'
  have h1: ¬x.cps.toList<p.cps.toList:=by simpa using h'.1
  have ih:=oq x r h'.2
  refine List.pairwise_cons.mpr ⟨fun y hy=>?_,ih⟩
  rcases List.mem_cons.mp hy with z | z
  ·rw[z];exact h1
  ·exact List.le_trans (show p.cps.toList<=x.cps.toList from h1) (show x.cps.toList<=y.cps.toList from List.rel_of_pairwise_cons ih z)
theorem xq {ss:List Str} (h:sortedS ss=true):(ss.map fun x=>x.cps.toList).Pairwise fun a b=> ¬b<a:=by
 rw[List.pairwise_map]
 cases ss with
 | nil=>exact List.Pairwise.nil
 | cons x r=>exact oq x r h
def GJ (K:PySem.W.Frag):List V->Hp->VK->Prop:=fun xs H Q=> ∃(p:Addr) (ls:List (List Nat)),xs=[.ref p]/\aJ K H p (ls.map fun l=>V.str (S l))/\ls.length<64/\ ∀(q:Addr) (Qn:List (List Nat)),H q=none->Qn.Perm ls->(Qn.Pairwise fun a b=> ¬b<a)->Q (.ref q) (upd H q (.lst (Qn.map fun l=>V.str (S l))))
theorem jX (K:PySem.W.Frag) (h:X.K=K):cS X (.builtin "sorted") (GJ K):=by
 subst h
 intro pins s σ H xs us Q I r h
 obtain ⟨p,ls,rfl,hq,hn,q⟩:=h
 obtain ⟨u,rfl,ru⟩:=vals1 r
 cases ru
 obtain ⟨aL,rv,pl,hz⟩:=I.list hq
 have hlen:aL.length=ls.length:=by rw[<-rv.length,List.length_map]
 refine sorted_strs (l:=p) (vs:=aL) (ss:=ls.map S) pl.isList (CW rv) (by omega) fun out Qo h1 h2 h3=>?_
 obtain ⟨e,he⟩:=sortedAll_at s.heap aL out
 have vP:(Qo.map fun x=>x.cps.toList).Perm ls:=by
  have:=h2.map fun x:Str=>x.cps.toList
  rw[List.map_map]at this
  have e2:ls.map ((fun x:Str=>x.cps.toList) ∘ S)=ls:=by
   have: ∀l∈ls,((fun x:Str=>x.cps.toList) ∘ S) l=l:=fun l _=>fA l
   calc ls.map _=ls.map id:=List.map_congr_left this
    _=ls:=List.map_id ls
  rwa [e2]at this
 have jd:=vP.length_eq
 have h64:(64:Nat)<sizeLine:=by decide
 have NS:((Qo.map fun x=>x.cps.toList).map fun l=>V.str (S l)).length<=sizeLine:=by rw[List.length_map,jd];omega
 refine ⟨.ref (s.heap.objs.size+1),_,I.laid (t':=s.toks) (a:=s.heap.objs.size+1) (o:= .lst ((Qo.map fun x=>x.cps.toList).map fun l=>V.str (S l))) (fun b o e=>sortedAll_old e) (Nat.le_succ _) ⟨NS,out.toList,e,vO h1,by simpa [seqObj]using he⟩,rfl,q _ _ (I.aX.fresh (Nat.le_succ _)) vP (xq h3)⟩
end
end L2
namespace L2
open PySem PySem.Spec PyProof.Rows
section
variable {X:Cx}
theorem vQ {ls:List (List Nat)} {l:List Nat} (h:ls.Perm (l.map fun c=>[c])): ∃l':List Nat,ls=l'.map (fun c=>[c])/\l'.Perm l:=by
 refine ⟨ls.flatten,?_,?_⟩
 ·have hs: ∀x∈ls, ∃c,x=[c]:=fun x hx=>by
   obtain ⟨c,_,e⟩:=List.mem_map.mp (h.mem_iff.mp hx)
   exact ⟨c,e.symm⟩
  clear h
  induction ls with
  | nil=>rfl
  | cons x ls ih=>
   obtain ⟨c,rfl⟩:=hs x List.mem_cons_self
   rw[List.flatten_cons,List.map_append, <-ih fun y hy=>hs y (List.mem_cons_of_mem _ hy)]
   rfl
 ·have:=h.flatten
  have e:(l.map fun c=>[c]).flatten=l:=by
   clear h this
   induction l with
   | nil=>rfl
   | cons c l ih=>rw[List.map_cons,List.flatten_cons,ih];rfl
  rwa [e]at this
theorem vR {l:List Nat} (h:(l.map fun c=>[c]).Pairwise fun a b=> ¬b<a):l.Pairwise fun a b=>a<=b:=by
 rw[List.pairwise_map]at h
 refine h.imp fun {a b} z=>?_
 by_cases y:a<=b
 ·exact y
 ·exact absurd (List.cons_lt_cons_iff.mpr (.inl (by omega))) z
end
end L2
namespace L2
open PySem PySem.Spec PyProof.Rows
section
variable {X:Cx}
end
end L2
namespace L2
open PySem PySem.Spec PyProof.Rows
section
variable {prog:Program} {w:World} {A:Around} {E:Value->Shared->Prop} {s:Shared}
theorem uB {it tp:Addr} {j:Nat} {xs:Array Value} {y:Value} {Q:Value->Shared->Prop} (hi:s.heap.IsTupleIter it tp j) (ht:s.heap.IsTuple tp xs) (hy:xs[j]? =some y)
  (q: ∀h2,h2.IsTupleIter it tp (j+1)->Heap.SameBut it s.heap h2->Q y { s with heap:=h2 }):wpAny (model prog w) A (Builtin.SmallTypes.nextOf (.ref it)) Q E s:=by
 obtain ⟨oi,eo,ec,ed⟩:=id hi
 obtain ⟨ot,et,_,nt,dt⟩:=ht
 unfold Builtin.SmallTypes.nextOf
 refine wpAny_bind (wpAny_callSpecial?_slot (name:=Str.ofString "__next__") hi.typeIs F.slot_tuple_iterator_next (wpAny_call_entry F.slot_tuple_iterator_next hi.typeIs F.entry_tuple_iterator_next ?_ (F.args_tuple_iterator_next_1 _)))
 refine wpAny_bind (m:=field (.ref it) 0) (wpAny_field eo ed (x:= .ref tp) rfl ?_)
 show wpAny (model prog w) _ (if (Value.ref tp==Value.none)=true then _ else _) _ E s
 rw[if_neg (show ¬(Value.ref tp==Value.none)=true from Bool.false_ne_true)]
 refine wpAny_bind (m:=field (.ref it) 1) (wpAny_field eo ed (x:= .int j 0) rfl ?_)
 refine wpAny_bind (m:=seqItems? (.ref tp)) (wpAny_seqItems et dt ?_)
 simp only[Int.toNat_natCast,hy]
 refine wpAny_bind (wpAny_setField eo ed (by simp) (wpAny_pure ⟨y,rfl,wpAny_pure (q _ ⟨_,Heap.get?_update_self _ eo (Obj.isFreed_of_fields (Obj.data_mapFields ed _)),(Obj.cls_mapFields ..).trans ec,by rw[Obj.data_mapFields ed];simp[rawInt]⟩ (Heap.SameBut.update ..))⟩))
theorem xr {it tp:Addr} {j:Nat} {xs:Array Value} {Q:Value->Shared->Prop} (hh:A.handled=none) (hi:s.heap.IsTupleIter it tp j) (ht:s.heap.IsTuple tp xs) (hy:xs[j]? =none)
  (q: ∀h2 e,Heap.ExtBut it s.heap h2->(∃o,h2.get? e=some o/\o.cls= .type "StopIteration")->E (.ref e) { s with heap:=h2 }):wpAny (model prog w) A (Builtin.SmallTypes.nextOf (.ref it)) Q E s:=by
 obtain ⟨oi,eo,ec,ed⟩:=id hi
 obtain ⟨ot,et,_,nt,dt⟩:=ht
 unfold Builtin.SmallTypes.nextOf
 refine wpAny_bind (wpAny_callSpecial?_slot (name:=Str.ofString "__next__") hi.typeIs F.slot_tuple_iterator_next (wpAny_call_entry F.slot_tuple_iterator_next hi.typeIs F.entry_tuple_iterator_next ?_ (F.args_tuple_iterator_next_1 _)))
 refine wpAny_bind (m:=field (.ref it) 0) (wpAny_field eo ed (x:= .ref tp) rfl ?_)
 show wpAny (model prog w) _ (if (Value.ref tp==Value.none)=true then _ else _) _ E s
 rw[if_neg (show ¬(Value.ref tp==Value.none)=true from Bool.false_ne_true)]
 refine wpAny_bind (m:=field (.ref it) 1) (wpAny_field eo ed (x:= .int j 0) rfl ?_)
 refine wpAny_bind (m:=seqItems? (.ref tp)) (wpAny_seqItems et dt ?_)
 simp only[Int.toNat_natCast,hy]
 refine wpAny_bind (wpAny_rule (wpAny_bind (wpAny_setField eo ed (by simp) ?_)))
 refine wpAny_bind (m:=newExc (.type "StopIteration") []) ?_
 simp only[newExc,newTuple]
 refine wpAny_bind (wpAny_newObj_type (wpAny_bind (m:=firstArgMember _ _) (wpAny_of_eq (a:=Value.none) (by first | rfl | (simp only[firstArgMember];rfl)) (wpAny_newObj_type ?_ (by size_fits)))) (by size_fits))
 simp only[raiseNew]
 refine wpAny_bind (wpAny_handled ?_);first | rw[show A.in1.handled=none from hh] | rw[hh]
 exact wpAny_bind (wpAny_pure (wpAny_throw (q _ _ (((Heap.SameBut.update ..).extBut.push _).push _) ⟨_,Heap.get?_push_size _ rfl,rfl⟩)))
theorem ie (hh:A.handled=none) (it tp:Addr) (ne:tp≠it) (xs:Array Value):
  Draws prog w A it [it,tp] xs.size (fun i v=>xs[i]? =some v) (fun i h=>h.IsTupleIter it tp i/\h.IsTuple tp xs) where
 live:=fun _ _ z=>let ⟨o,e,_⟩:=z.1;⟨o,e⟩
 frame:=fun _ _ _ z k=>by
  obtain ⟨⟨o,e,r⟩,o2,e2,r2⟩:=z
  exact ⟨⟨o,k it (by simp) o e,r⟩,o2,k tp (by simp) o2 e2,r2⟩
 item:=fun i s Q E hi z q=>uB z.1 z.2 (y:=xs[i]) (by simp[hi]) fun h2 z2 sb=>q _ h2 s.toks (by simp[hi]) ⟨z2,z.2.extBut sb.extBut ne⟩ sb
 done:=fun s Q E z q=>xr hh z.1 z.2 (by simp) q
theorem rg (l:Addr) (items:Array Value) (n:Nat) (Qp:Option Addr) (sl:Array (Option Value)):
  Meets (Builtin.«enumerate.__new__» ⟨[.type "enumerate", .ref l],[]⟩) (fun _ R s=>s.heap.get? l=some { cls:= .type "tuple",dict:=Qp,data:= .seq items n,slots:=sl }/\
   R (.ok (.ret (.ref (s.heap.push { cls:= .type "tuple_iterator",data:= .fields #[.ref l, .int 0 0] }).objs.size)))
    { s with heap:=(s.heap.push { cls:= .type "tuple_iterator",data:= .fields #[.ref l, .int 0 0] }).push { cls:= .type "enumerate",data:= .fields #[.none, .bool false, .ref s.heap.objs.size,rawInt 0, .none, .none] } }):=
 .of_wp fun prog w A R s h=>by
  obtain ⟨hp,g,d,tk,os⟩:=s;obtain ⟨hl,q⟩:=h;have CY:=sub_enumerate
  have hT:Heap.IsTuple (Shared.heap ⟨hp,g,d,tk,os⟩) l items:=⟨_,hl,rfl,n,rfl⟩
  wp_walk using AutoSeq1.wpAny_loadPart' hl
  refine wpAny_stack_any fun st=>wpAny_pure ?_
  split
  ·rename_i c _ _ _ _ _
   cases (c==Value.type "enumerate")<;>(wp_walk using AutoSeq1.wpAny_loadPart' hl,wpAny_pyIter_tuple hT;exact ⟨_,rfl,q⟩)
  ·wp_walk using AutoSeq1.wpAny_loadPart' hl,wpAny_pyIter_tuple hT
   exact ⟨_,rfl,q⟩
theorem uC {l:Addr} {items:Array Value} {Q:Value->Shared->Prop} (hL:s.heap.IsTuple l items)
  (h: ∀h',IsEnum h' (s.heap.objs.size+1) s.heap.objs.size 0 .none->h'.IsTupleIter s.heap.objs.size l 0->(∀b o,s.heap.get? b=some o->h'.get? b=some o)->Q (.ref (s.heap.objs.size+1)) { s with heap:=h' }):
  wpAny (model prog w) A (call (.type "enumerate") [.ref l]) Q E s:=by
 obtain ⟨⟨c,Qp,dt,sl⟩,hl,hc,n,hd⟩:=hL
 cases (show c= .type "tuple" from hc)
 cases (show dt= .seq items n from hd)
 refine callType_new F.called_enumerate (by decide) (F.typeCall_enumerate_1 _) (F.newCall_enumerate_1 _) (fun ob=>F.args_object_init_2 ob _) F.entry_enumerate_new (rg l items n Qp sl) ⟨hl,?_⟩
 have hz:(s.heap.push { cls:= .type "tuple_iterator",data:= .fields #[.ref l, .int 0 0] }).objs.size=s.heap.objs.size+1:=Heap.size_push ..
 show _/\_
 rw[hz]
 have he:IsEnum ((s.heap.push { cls:= .type "tuple_iterator",data:= .fields #[.ref l, .int 0 0] }).push { cls:= .type "enumerate",data:= .fields #[.none, .bool false, .ref s.heap.objs.size,rawInt 0, .none, .none] }) (s.heap.objs.size+1) s.heap.objs.size 0 .none:=by
  have:=Heap.get?_push_size (s.heap.push { cls:= .type "tuple_iterator",data:= .fields #[.ref l, .int 0 0] }) (o:={ cls:= .type "enumerate",data:= .fields #[.none, .bool false, .ref s.heap.objs.size,rawInt 0, .none, .none] }) rfl
  rwa [hz]at this
 exact ⟨⟨_,he,rfl⟩,h _ he ⟨_,Heap.get?_push_of_some _ (Heap.get?_push_size _ rfl),rfl,rfl⟩ fun b o x=>Heap.get?_push_of_some _ (Heap.get?_push_of_some _ x)⟩
end
noncomputable def zY (K:PySem.W.Frag) (a:Addr):It:=⟨fun i H=> ∃xs x,aN K H a xs/\xs[i]? =some x,fun i H x H'=> ∃T y,(∀xs,aN K H a xs->xs[i]? =some y)/\x= .ref T/\H T=none/\H'=upd H T (.tup [.int i,y]),fun i H=> ∃xs,aN K H a xs/\xs.length=i⟩
noncomputable def xt (K:PySem.W.Frag) (a:Addr):It:=⟨fun i H=> ∃xs x,aJ K H a xs/\xs[i]? =some x,fun i H x H'=> ∃T y,(∀xs,aJ K H a xs->xs[i]? =some y)/\x= .ref T/\H T=none/\H'=upd H T (.tup [.int i,y]),fun i H=> ∃xs,aJ K H a xs/\xs.length=i⟩
theorem uD {P:Program} {w:World} {K:PySem.W.Frag} {elts:List Expr} {k:Nat} {pos:Pos} (e it a:Addr) (vN:e≠it) (K9:a≠e) (K_:a≠it):
  Turn P w K (.Tuple elts k pos) (zY K a) [e,it] e (fun i h=>(∃old,IsEnum h e it i old)/\h.IsTupleIter it a i) where
 mem:=by simp
 obj:=fun i h st b hb=>by
  obtain ⟨⟨old,he⟩,o,ho,hc,hd⟩:=st
  rcases List.mem_cons.mp hb with z | z
  ·rw[z];exact ⟨_,he,fun v z=>by cases z⟩
  ·rw[List.mem_singleton.mp z];exact ⟨o,ho,fun v z=>by rw[hd]at z;cases z⟩
 keep:=fun i h h' st kp=>by
  obtain ⟨⟨old,he⟩,o,ho,r⟩:=st
  exact ⟨⟨old,kp e (by simp) _ he⟩,o,kp it (by simp) o ho,r⟩
 item:=by
  intro X hP hw hK hc i pins s σ H E I hf st hg
  subst hP hw hK
  obtain ⟨mj,iJ⟩:=st
  obtain ⟨xs,x,hq,hx⟩:=hg
  obtain ⟨aL,rv,p,hz⟩:=I.tuple hq
  obtain ⟨u0,hu,ru⟩:=rv.get hx
  have D:=ie (prog:=X.prog) (w:=X.w) (A:=X.A.in1) (I.ok.hd hc) it a K_ aL.toArray
  have W:=WalksT.enumerateD D e vN (by simp;exact ⟨vN,Ne.symm K9⟩) (by simp)
  have La:i<aL.toArray.size:=by rw[List.size_toArray];exact (List.getElem?_eq_some_iff.mp hu).1
  refine W.item i s _ _ La ⟨mj,iJ,p⟩ fun T vals h' tk K7 hT zW q9 hk=>⟨_,rfl,?_⟩
  refine W.go elts k pos i T { s with heap:=h',toks:=tk } _ _ q9 fun h2 q_ Cb=>?_
  obtain ⟨tt,x2,xu,rfl⟩:=K7
  have ex:x2=u0:=by
   rw[List.getElem?_toArray]at xu
   exact Option.some.inj (xu.symm.trans hu)
  subst ex
  have zc:T∉[e,it]:=W.apart i T h' q9
  have jW:h2.IsTuple T #[.int i tt,x2]:=by
   obtain ⟨o,ho,r⟩:=zW
   exact ⟨o,Cb T o zc ho,r⟩
  refine ⟨.ref T,upd H T (.tup [.int i,x]),?_,rfl,⟨T,x,fun ys hy=>by rw[I.kj hy hq];exact hx,rfl,I.aX.fresh hT,rfl⟩,⟨q_.1,q_.2.1⟩,fun b hb=>?_⟩
  ·refine I.ic (t':=tk) (h':=h2) (fun b o hb y=>Cb b o hb (hk b o hb y)) hf hT ?_
   exact ⟨by show 2<=sizeLine;decide,[.int i tt,x2], .cons ⟨tt,rfl⟩ (.cons ru .nil),jW⟩
  ·rw[aj (fun z:b=T=>zc (z▸hb))];exact (hf b hb).1
 done:=by
  intro X hP hw hK hc i pins s σ H E I hf st hg
  subst hP hw hK
  obtain ⟨mj,iJ⟩:=st
  obtain ⟨xs,hq,hx⟩:=hg
  obtain ⟨aL,rv,p,hz⟩:=I.tuple hq
  have hl:=rv.length
  have D:=ie (prog:=X.prog) (w:=X.w) (A:=X.A.in1) (I.ok.hd hc) it a K_ aL.toArray
  have W:=WalksT.enumerateD D e vN (by simp;exact ⟨vN,Ne.symm K9⟩) (by simp)
  refine W.done s _ _ ?_ fun h' tk hk=>⟨rfl,I.jV (t':=tk) hk hf⟩
  have e1:aL.toArray.size=i:=by rw[List.size_toArray];omega
  rw[e1]
  exact ⟨mj,iJ,p⟩
 self:=fun _ _ s _ _ st h=>by
  obtain ⟨⟨old,he⟩,_⟩:=st
  exact wpAny_pyIter_enum he h
theorem uE {P:Program} {w:World} {K:PySem.W.Frag} {elts:List Expr} {k:Nat} {pos:Pos} (e it a:Addr) (vN:e≠it) (K9:a≠e) (K_:a≠it):
  Turn P w K (.Tuple elts k pos) (xt K a) [e,it] e (fun i h=>(∃old,IsEnum h e it i old)/\h.IsListIter it a i) where
 mem:=by simp
 obj:=fun i h st b hb=>by
  obtain ⟨⟨old,he⟩,o,ho,hc,hd⟩:=st
  rcases List.mem_cons.mp hb with z | z
  ·rw[z];exact ⟨_,he,fun v z=>by cases z⟩
  ·rw[List.mem_singleton.mp z];exact ⟨o,ho,fun v z=>by rw[hd]at z;cases z⟩
 keep:=fun i h h' st kp=>by
  obtain ⟨⟨old,he⟩,o,ho,r⟩:=st
  exact ⟨⟨old,kp e (by simp) _ he⟩,o,kp it (by simp) o ho,r⟩
 item:=by
  intro X hP hw hK hc i pins s σ H E I hf st hg
  subst hP hw hK
  obtain ⟨mj,iJ⟩:=st
  obtain ⟨xs,x,hq,hx⟩:=hg
  obtain ⟨aL,rv,p,hz⟩:=I.list hq
  obtain ⟨u0,hu,ru⟩:=rv.get hx
  have D:=Draws.list (prog:=X.prog) (w:=X.w) (A:=X.A.in1) (I.ok.hd hc) it a K_ aL.toArray
  have W:=WalksT.enumerateD D e vN (by simp;exact ⟨vN,Ne.symm K9⟩) (by simp)
  have La:i<aL.toArray.size:=by rw[List.size_toArray];exact (List.getElem?_eq_some_iff.mp hu).1
  refine W.item i s _ _ La ⟨mj,iJ,p.isList⟩ fun T vals h' tk K7 hT zW q9 hk=>⟨_,rfl,?_⟩
  refine W.go elts k pos i T { s with heap:=h',toks:=tk } _ _ q9 fun h2 q_ Cb=>?_
  obtain ⟨tt,x2,xu,rfl⟩:=K7
  have ex:x2=u0:=by
   rw[List.getElem?_toArray]at xu
   exact Option.some.inj (xu.symm.trans hu)
  subst ex
  have zc:T∉[e,it]:=W.apart i T h' q9
  have jW:h2.IsTuple T #[.int i tt,x2]:=by
   obtain ⟨o,ho,r⟩:=zW
   exact ⟨o,Cb T o zc ho,r⟩
  refine ⟨.ref T,upd H T (.tup [.int i,x]),?_,rfl,⟨T,x,fun ys hy=>by rw[I.lR hy hq];exact hx,rfl,I.aX.fresh hT,rfl⟩,⟨q_.1,q_.2.1⟩,fun b hb=>?_⟩
  ·refine I.ic (t':=tk) (h':=h2) (fun b o hb y=>Cb b o hb (hk b o hb y)) hf hT ?_
   exact ⟨by show 2<=sizeLine;decide,[.int i tt,x2], .cons ⟨tt,rfl⟩ (.cons ru .nil),jW⟩
  ·rw[aj (fun z:b=T=>zc (z▸hb))];exact (hf b hb).1
 done:=by
  intro X hP hw hK hc i pins s σ H E I hf st hg
  subst hP hw hK
  obtain ⟨mj,iJ⟩:=st
  obtain ⟨xs,hq,hx⟩:=hg
  obtain ⟨aL,rv,p,hz⟩:=I.list hq
  have hl:=rv.length
  have D:=Draws.list (prog:=X.prog) (w:=X.w) (A:=X.A.in1) (I.ok.hd hc) it a K_ aL.toArray
  have W:=WalksT.enumerateD D e vN (by simp;exact ⟨vN,Ne.symm K9⟩) (by simp)
  refine W.done s _ _ ?_ fun h' tk hk=>⟨rfl,I.jV (t':=tk) hk hf⟩
  have e1:aL.toArray.size=i:=by rw[List.size_toArray];omega
  rw[e1]
  exact ⟨mj,iJ,p.isList⟩
 self:=fun _ _ s _ _ st h=>by
  obtain ⟨⟨old,he⟩,_⟩:=st
  exact wpAny_pyIter_enum he h
def GK (K:PySem.W.Frag) (ta:TA):TI:=fun σ H R=>ta σ H fun vs H1=> ∃a,vs=[.ref a]/\(∃xs,aN K H1 a xs)/\R (zY K a) H1
def GL (K:PySem.W.Frag) (ta:TA):TI:=fun σ H R=>ta σ H fun vs H1=> ∃a,vs=[.ref a]/\(∃xs,aJ K H1 a xs)/\R (xt K a) H1
theorem mm {X:Cx} (K:PySem.W.Frag) (hK:X.K=K) {elts:List Expr} {k:Nat} {pos':Pos} {a:Expr} {ta:TA} {p pos:Pos} (hg:Gl X "enumerate") (hm:X.mg "enumerate"=none) (ha:PA X [a] ta) (hs:starEach [a] X.env=[(false,eval a X.env)]:=by rfl):PI X (.Tuple elts k pos') (.Call (.Name "enumerate" p) [a] [] pos) (GK K ta):=by
 subst hK
 intro pins s σ H R I h
 refine Call_ (dz I hg hm boot_enumerate (PyProof.Rows.callWith_type1 (bQ (ha pos pins s σ H _ I h) fun us s1 ⟨vs,H1,I1,r1,q1⟩=>?_) hs rfl))
 obtain ⟨b,rfl,⟨xs,hq⟩,q⟩:=q1
 obtain ⟨u,rfl,ru⟩:=vals1 r1
 cases ru
 obtain ⟨aL,rv,pl,hz⟩:=I1.tuple hq
 obtain ⟨ob,eb,_⟩:=id pl
 have eK:b<s1.heap.objs.size:=Heap.lt_size eb
 refine uC pl fun h' he hit hk=>wpAny_pyIter_enum he ?_
 refine ⟨s1.heap.objs.size+1,[s1.heap.objs.size+1,s1.heap.objs.size],_,_,H1,rfl,I1.kept (t':=s1.toks) hk,uD _ _ b (Nat.succ_ne_self _) (Nat.ne_of_lt (Nat.lt_succ_of_lt eK)) (Nat.ne_of_lt eK),⟨⟨_,he⟩,hit⟩,fun c hb=>?_,q⟩
 have gQ:s1.heap.objs.size<=c:=by
  rcases List.mem_cons.mp hb with z | z
  ·rw[z];exact Nat.le_succ _
  ·rw[List.mem_singleton.mp z];exact Nat.le_refl _
 exact I1.lS gQ (I1.aX.fresh gQ)
theorem fE {X:Cx} (K:PySem.W.Frag) (hK:X.K=K) {elts:List Expr} {k:Nat} {pos':Pos} {a:Expr} {ta:TA} {p pos:Pos} (hg:Gl X "enumerate") (hm:X.mg "enumerate"=none) (ha:PA X [a] ta) (hs:starEach [a] X.env=[(false,eval a X.env)]:=by rfl):PI X (.Tuple elts k pos') (.Call (.Name "enumerate" p) [a] [] pos) (GL K ta):=by
 subst hK
 intro pins s σ H R I h
 refine Call_ (dz I hg hm boot_enumerate (PyProof.Rows.callWith_type1 (bQ (ha pos pins s σ H _ I h) fun us s1 ⟨vs,H1,I1,r1,q1⟩=>?_) hs rfl))
 obtain ⟨b,rfl,⟨xs,hq⟩,q⟩:=q1
 obtain ⟨u,rfl,ru⟩:=vals1 r1
 cases ru
 obtain ⟨aL,rv,pl,hz⟩:=I1.list hq
 obtain ⟨ob,eb,_⟩:=id pl.isList
 have eK:b<s1.heap.objs.size:=Heap.lt_size eb
 refine call_enumerate_list pl.isList fun h' he hit hsz hk=>wpAny_pyIter_enum he ?_
 refine ⟨s1.heap.objs.size+1,[s1.heap.objs.size+1,s1.heap.objs.size],_,_,H1,rfl,I1.kept (t':=s1.toks) hk,uE _ _ b (Nat.succ_ne_self _) (Nat.ne_of_lt (Nat.lt_succ_of_lt eK)) (Nat.ne_of_lt eK),⟨⟨_,he⟩,hit⟩,fun c hb=>?_,q⟩
 have gQ:s1.heap.objs.size<=c:=by
  rcases List.mem_cons.mp hb with z | z
  ·rw[z];exact Nat.le_succ _
  ·rw[List.mem_singleton.mp z];exact Nat.le_refl _
 exact I1.lS gQ (I1.aX.fresh gQ)
theorem iM {K:PySem.W.Frag} {a:Addr} {xs:List V} {g:TG} {tb:TS} {D:Ends} {σ:St} {H:Hp} (Pv:Nat->St->Hp->Prop) (h0:Pv 0 σ H) (hl: ∀i σ H,i<=xs.length->Pv i σ H->aN K H a xs)
  (hs: ∀i x σ H T,xs[i]? =some x->Pv i σ H->H T=none->g (.ref T) σ (upd H T (.tup [.int i,x])) fun σ2 H2=>tb { D with nx:=Pv (i+1),ct:=Pv (i+1),bk:=D.nx } σ2 H2) (hd: ∀σ H,Pv xs.length σ H->D.nx σ H):
  ∃W:Nat->Nat->St->Hp->Prop,(∃m,W 0 m σ H)/\ ∀i m σ H,W i m σ H->
   ((zY K a).stop i H/\D.nx σ H)\/((zY K a).go i H/\ ∃N:St->Hp->Prop,(∀σ' H',N σ' H'-> ∃m',m'<m/\W (i+1) m' σ' H')/\ ∀x H',(zY K a).yZ i H x H'->g x σ H' fun σ2 H2=>tb { D with nx:=N,ct:=N,bk:=D.nx } σ2 H2):=by
 refine ⟨fun i m σ H=>m=xs.length - i/\i<=xs.length/\Pv i σ H,⟨xs.length,by simp,Nat.zero_le _,h0⟩,?_⟩
 rintro i m σ H ⟨rfl,hi,p⟩
 have hq:=hl i σ H hi p
 by_cases eK:i<xs.length
 ·refine .inr ⟨⟨xs,xs[i],hq,by simp[eK]⟩,Pv (i+1),fun σ' H' p'=>⟨xs.length - (i+1),by omega,rfl,eK,p'⟩,fun x H' y=>?_⟩
  obtain ⟨T,z,hz,rfl,hn,rfl⟩:=y
  exact hs i z σ _ T (hz xs hq) p hn
 ·have e:i=xs.length:=by omega
  subst e
  exact .inl ⟨⟨xs,hq,rfl⟩,hd σ H p⟩
theorem gk {K:PySem.W.Frag} {a:Addr} {xs:List V} {g:TG} {tb:TS} {D:Ends} {σ:St} {H:Hp} (Pv:Nat->St->Hp->Prop) (h0:Pv 0 σ H) (hl: ∀i σ H,i<=xs.length->Pv i σ H->aJ K H a xs)
  (hs: ∀i x σ H T,xs[i]? =some x->Pv i σ H->H T=none->g (.ref T) σ (upd H T (.tup [.int i,x])) fun σ2 H2=>tb { D with nx:=Pv (i+1),ct:=Pv (i+1),bk:=D.nx } σ2 H2) (hd: ∀σ H,Pv xs.length σ H->D.nx σ H):
  ∃W:Nat->Nat->St->Hp->Prop,(∃m,W 0 m σ H)/\ ∀i m σ H,W i m σ H->
   ((xt K a).stop i H/\D.nx σ H)\/((xt K a).go i H/\ ∃N:St->Hp->Prop,(∀σ' H',N σ' H'-> ∃m',m'<m/\W (i+1) m' σ' H')/\ ∀x H',(xt K a).yZ i H x H'->g x σ H' fun σ2 H2=>tb { D with nx:=N,ct:=N,bk:=D.nx } σ2 H2):=by
 refine ⟨fun i m σ H=>m=xs.length - i/\i<=xs.length/\Pv i σ H,⟨xs.length,by simp,Nat.zero_le _,h0⟩,?_⟩
 rintro i m σ H ⟨rfl,hi,p⟩
 have hq:=hl i σ H hi p
 by_cases eK:i<xs.length
 ·refine .inr ⟨⟨xs,xs[i],hq,by simp[eK]⟩,Pv (i+1),fun σ' H' p'=>⟨xs.length - (i+1),by omega,rfl,eK,p'⟩,fun x H' y=>?_⟩
  obtain ⟨T,z,hz,rfl,hn,rfl⟩:=y
  exact hs i z σ _ T (hz xs hq) p hn
 ·have e:i=xs.length:=by omega
  subst e
  exact .inl ⟨⟨xs,hq,rfl⟩,hd σ H p⟩
theorem xw {l:List Nat} {σc:St} {g:TG} {tc:TT} {te:TE} {Q:VK} {H1:Hp} (Pv:Nat->List V->Hp->Prop) (hn:l.length<sizeLine) (h0:Pv 0 [] H1)
  (hs: ∀(i c:Nat) (acc:List V) (H:Hp) (T:Addr) (Nx:List V->Hp->Prop),l[i]? =some c->acc.length<=i->Pv i acc H->H T=none->(∀bF H',bF.length<=i+1->Pv (i+1) bF H'->Nx bF H')->
   g (.ref T) σc (upd H T (.tup [.int i, .str (S [c])])) fun σ2 H2=>Wk σc σ2/\tc σ2 H2 fun b H3=>if b=true then te σ2 H3 fun v H4=>Nx (acc++[v]) H4 else Nx acc H3)
  (hd: ∀acc H D,acc.length<=l.length->Pv l.length acc H->H D=none->Q (.ref D) (upd H D (.lst acc))):jR (JA l) σc g tc te Q H1:=by
 refine ⟨fun i m acc H=>m=l.length - i/\i<=l.length/\acc.length<=i/\Pv i acc H,⟨l.length,by simp,Nat.zero_le _,Nat.le_refl _,h0⟩,?_⟩
 rintro i m acc H ⟨rfl,hi,hl,p⟩
 refine ⟨by omega,?_⟩
 by_cases eK:i<l.length
 ·refine .inr ⟨eK,fun x H' y=>?_⟩
  obtain ⟨T,c,hc,rfl,hT,rfl⟩:=y
  exact hs i c acc _ T (fun bF H'=> ∃m',m'<l.length - i/\(m'=l.length - (i+1)/\i+1<=l.length/\bF.length<=i+1/\Pv (i+1) bF H')) hc hl p hT fun bF H' h1 h2=>⟨l.length - (i+1),by omega,rfl,eK,h1,h2⟩
 ·have e:i=l.length:=by omega
  subst e
  exact .inl ⟨Nat.le_refl _,fun D hD=>hd acc H D hl p hD⟩
section
variable {X:Cx}
def zZ (K:PySem.W.Frag):List V->Hp->VK->Prop:=fun xs H Q=>(∃l:List Nat,xs=[.str (S l)]/\l.length<=sizeLine/\ ∀p,H p=none->Q (.ref p) (upd H p (.lst (bO l))))\/vJ K xs H Q
theorem pW (K:PySem.W.Frag) (h:X.K=K) (hc:X.calm=true):cS X (.type "list") (zZ K):=by
 intro pins s σ H xs us Q I r q
 rcases q with q | q
 ·exact fD hc pins s σ H xs us Q I r q
 ·exact cZ K h pins s σ H xs us Q I r q
def CZ (K:PySem.W.Frag):V->List V->Hp->VK->Prop:=fun x vs H Q=> ∃(p:Addr) (l:List Nat) (c:Nat),x= .ref p/\vs=[.str (S [c])]/\H p=some (.lst (bO l))/\c∈l/\Q (.int (l.idxOf c:Nat)) H
theorem ou (K:PySem.W.Frag) (h:X.K=K):xh X "list.index" (CZ K):=by
 subst h
 intro pins s σ H x vs v us Q I rx rv h
 obtain ⟨p,l,c,rfl,rfl,hH,hc,q⟩:=h
 cases rx
 obtain ⟨u,rfl,t',rfl⟩:=vals1 rv
 obtain ⟨z,aL,n,r,hl,e⟩:=I.pR hH
 have hz:sizeLine<2 ^ 62:=by decide
 have hj:l.idxOf c<l.length:=List.idxOf_lt_length_of_mem hc
 have hlen:aL.length=l.length:=by rw[<-hl];unfold bO;rw[List.length_map]
 have GN:l.length<=sizeLine:=by rw[<-hlen, <-hl];exact z
 have tM: ∀m (hm:m<aL.toArray.size) (GO:m<l.length),qU (.str (S [c])) aL.toArray[m]=decide (l[m]=c):=fun m hm GO=>by
  have h1:(bO l)[m]? =some (V.str (S [l[m]])):=by unfold bO;rw[List.getElem?_map,List.getElem?_eq_getElem GO];rfl
  obtain ⟨u,hu,ru⟩:=r.get h1
  have e1:aL.toArray[m]=u:=by
   rw[List.getElem_toArray]
   exact Option.some.inj ((List.getElem?_eq_getElem _).symm.trans hu)
  rw[e1,uh ru rfl]
  show decide (S [l[m]]=S [c])=_
  refine decide_eq_decide.mpr ⟨fun z=>?_,fun z=>by rw[z]⟩
  have:=congrArg (fun x:Str=>x.cps.toList) z
  simpa [S]using this
 refine call_meets F.slot_list_index ⟨_,e,rfl⟩ F.entry_list_index (F.args_list_index_2 _ _) (SeqAt.list_indexAt p aL.toArray n none #[] (.str (S [c]) t') (qU (.str (S [c]))) (l.idxOf c) (by rw[List.size_toArray];omega) (by omega) ?_ ?_) ⟨e,?_,?_⟩
 ·rw[tM _ _ hj];exact decide_eq_true (List.getElem_idxOf hj)
 ·intro m hm eK
  rw[tM m hm (by omega)]
  exact decide_eq_false fun z=>by
   have:=List.not_of_lt_findIdx (p:=fun x=>x==c) eK
   rw[z]at this
   simp at this
 ·intro w hw
  have fs:(bO l).all g_=true:=by
   rw[List.all_eq_true];intro v hv
   obtain ⟨d,_,rfl⟩:=List.mem_map.mp hv
   rfl
  exact gi (x:= .str (S [c])) (show RelV (.str (S [c])) _ from ⟨t',rfl⟩) rfl r fs w (by simpa using hw)
 ·exact ⟨.int (l.idxOf c:Nat),H,I.tok _,⟨_,rfl⟩,q⟩
end
end L2
namespace L2
open PySem PySem.Spec PyProof.Rows
section
variable {X:Cx}
def GP (K:PySem.W.Frag):List V->Hp->VK->Prop:=fun xs H Q=> ∃p ys,xs=[.ref p]/\((aJ K H p ys/\ ∀l,H l=none->Q (.ref l) (upd H l (.tup ys)))\/(aN K H p ys/\Q (.ref p) H))
theorem br (K:PySem.W.Frag) (h:X.K=K):cS X (.type "tuple") (GP K):=by subst h;exact nz
theorem z9 (K:PySem.W.Frag) (h:X.K=K):gc X (binaryOp .Add) (ES K):=by subst h;exact CF
end
end L2
namespace L2
open PySem PySem.Spec PyProof.Rows
theorem rh {K:PySem.W.Frag} {a:Addr} {xs:List V} {σc:St} {g:TG} {tc:TT} {te:TE} {Q:VK} {H1:Hp} (Pv:Nat->List V->Hp->Prop) (hn:xs.length<sizeLine) (hl: ∀i acc H,Pv i acc H->aN K H a xs) (h0:Pv 0 [] H1)
  (hs: ∀(i:Nat) (x:V) (acc:List V) (H:Hp) (Nx:List V->Hp->Prop),i<xs.length->xs[i]? =some x->acc.length<=i->Pv i acc H->(∀bF H',bF.length<=i+1->Pv (i+1) bF H'->Nx bF H')->
   g x σc H fun σ2 H2=>Wk σc σ2/\tc σ2 H2 fun b H3=>if b=true then te σ2 H3 fun v H4=>Nx (acc++[v]) H4 else Nx acc H3)
  (hd: ∀acc H D,acc.length<=xs.length->Pv xs.length acc H->H D=none->Q (.ref D) (upd H D (.lst acc))):jR (PD K a) σc g tc te Q H1:=
 lK (xs:=fun i x=>xs[i]? =some x) Pv hn (fun i acc H h p=>⟨xs,xs[i],hl i acc H p,by simp[h]⟩) (fun acc H p=>⟨xs,hl _ acc H p,Nat.le_refl _⟩) (fun i acc H x H' h p y=>⟨y.1,y.2 xs (hl i acc H p)⟩) h0 hs hd
theorem lL (l a b:Nat):qV (.str (S [l])) [.str (S [a]), .str (S [b])]=(decide (l=a)||decide (l=b)):=by
 have key: ∀c:Nat,y9 (.str (S [c])) (.str (S [l]))=decide (l=c):=fun c=>by
  show decide (S [c]=S [l])=_
  refine decide_eq_decide.mpr ⟨fun z=>?_,fun z=>by rw[z]⟩
  have:=congrArg (fun x:Str=>x.cps.toList) z
  simpa [S,eq_comm]using this
 unfold qV
 rw[List.any_cons,List.any_cons,List.any_nil,key,key,Bool.or_false]
theorem iN (e:Nat) (l:List Nat):qV (.str (S [e])) (bO l)=decide (e∈l):=by
 have key: ∀c:Nat,y9 (.str (S [c])) (.str (S [e]))=decide (e=c):=fun c=>by
  show decide (S [c]=S [e])=_
  refine decide_eq_decide.mpr ⟨fun z=>?_,fun z=>by rw[z]⟩
  have:=congrArg (fun x:Str=>x.cps.toList) z
  simpa [S,eq_comm]using this
 unfold qV bO
 induction l with
 | nil=>rfl
 | cons c l ih=>
  rw[List.map_cons,List.any_cons,ih,key]
  by_cases z:e=c<;>simp[z]
def aC (H H':Hp):Prop:= ∀c xs,H c=some (.tup xs)->H' c=some (.tup xs)
theorem aC.trans {H H1 H2:Hp} (a:aC H H1) (b:aC H1 H2):aC H H2:=fun c xs h=>b c xs (a c xs h)
theorem aC.of {H H':Hp} (s:ai H H'):aC H H':=fun c xs h=>s c _ h
theorem aC.ja {H:Hp} {p:Addr} {ys:List V} {o:HO} (h:H p=some (.lst ys)):aC H (upd H p o):=fun c xs e=>by
 rw[aj (fun z=>by rw[z,h]at e;cases e)];exact e
theorem aC.dY {H:Hp} {p:Addr} {o:HO} (h:H p=none):aC H (upd H p o):=fun c xs e=>by
 rw[aj (fun z=>by rw[z,h]at e;cases e)];exact e
end L2
namespace L2
open PySem PySem.Spec PyProof.Rows
section
variable {prog:Program} {w:World} {A:Around} {E:Value->Shared->Prop} {s:Shared}
end
section
variable {X:Cx}
end
end L2
namespace L2
open PySem PySem.Spec PyProof.Rows
section
variable {prog:Program} {w:World} {A:Around} {E:Value->Shared->Prop} {s:Shared}
end
section
variable {X:Cx}
end
end L2
namespace HT
open PySem PySem.Spec PyProof.Rows
section
variable {prog:Program} {w:World} {A:Around} {E:Value->Shared->Prop} {s:Shared}
end
end HT
namespace L2
open PySem PySem.Spec PyProof.Rows
section
variable {X:Cx} {e st:Expr} {te:TE} {ts:TO} {pos p2:Pos}
end
end L2
namespace L2
open PySem PySem.Spec PyProof.Rows
section
variable {κ:Type} [DecidableEq κ]
noncomputable def cf (kvs:List (κ×V)) (k:κ):Option V:=(kvs.find? fun kv=>decide (kv.1=k)).map (·.2)
noncomputable def putK (kvs:List (κ×V)) (k:κ) (v:V):List (κ×V):=
 if (kvs.any fun kv=>decide (kv.1=k))=true then kvs.map (fun kv=>if kv.1=k then (kv.1,v) else kv) else kvs++[(k,v)]
theorem bT {p:κ×V} {r:List (κ×V)} {k:κ} (e:p.1=k):cf (p::r) k=some p.2:=by simp[cf,List.find?_cons,e]
theorem bu {p:κ×V} {r:List (κ×V)} {k:κ} (e: ¬p.1=k):cf (p::r) k=cf r k:=by simp[cf,List.find?_cons,e]
theorem fF (k:κ): ∀kvs:List (κ×V),(kvs.any fun kv=>decide (kv.1=k))=(cf kvs k).isSome
 | []=>rfl
 | p::r=>by
  rw[List.any_cons]
  by_cases e:p.1=k
  ·simp only[bT e,decide_eq_true e,Bool.true_or,Option.isSome_some]
  ·rw[bu e,decide_eq_false e,Bool.false_or];exact fF k r
theorem rj (k j:κ) (y:V): ∀kvs:List (κ×V),cf (kvs.map fun kv=>if kv.1=k then (kv.1,y) else kv) j=(cf kvs j).map fun x=>if j=k then y else x
 | []=>rfl
 | p::r=>by
  have ih:=rj k j y r
  rw[List.map_cons]
  by_cases h:p.1=k
  ·rw[if_pos h]
   by_cases e:p.1=j
   ·rw[bT (p:=(p.1,y)) e,bT e,Option.map_some,if_pos (e.symm.trans h)]
   ·rw[bu (p:=(p.1,y)) e,bu e,ih]
  ·rw[if_neg h]
   by_cases e:p.1=j
   ·rw[bT (p:=p) e,bT e,Option.map_some,if_neg (fun z=>h (e.trans z))]
   ·rw[bu (p:=p) e,bu e,ih]
theorem ow (k j:κ) (y:V): ∀kvs:List (κ×V),cf kvs k=none->cf (kvs++[(k,y)]) j=if j=k then some y else cf kvs j
 | [],_=>by
  by_cases e:k=j
  ·rw[if_pos e.symm];exact bT (p:=(k,y)) e
  ·rw[if_neg (fun z=>e z.symm)];exact bu (p:=(k,y)) e
 | p::r,hn=>by
  rw[List.cons_append]
  have hk: ¬p.1=k:=fun z=>by rw[bT z]at hn;cases hn
  rw[bu hk]at hn
  have ih:=ow k j y r hn
  by_cases e:p.1=j
  ·rw[bT e,bT e,if_neg (fun z=>hk (e.trans z))]
  ·rw[bu e,bu e,ih]
theorem jY (kvs:List (κ×V)) (k j:κ) (y:V):cf (putK kvs k y) j=if j=k then some y else cf kvs j:=by
 unfold putK
 by_cases a:(kvs.any fun kv=>decide (kv.1=k))=true
 ·rw[if_pos a,rj]
  rw[fF]at a
  by_cases e:j=k
  ·obtain ⟨x,hx⟩:=Option.isSome_iff_exists.mp a
   rw[if_pos e,e,hx,Option.map_some,if_pos rfl]
  ·rw[if_neg e]
   cases cf kvs j with
   | none=>rfl
   | some x=>rw[Option.map_some,if_neg e]
 ·rw[if_neg a]
  refine ow k j y kvs ?_
  rw[fF]at a
  cases q:cf kvs k with
  | none=>rfl
  | some x=>rw[q]at a;exact (a rfl).elim
theorem fQ (kvs:List (κ×V)) (k:κ) (v:V):(putK kvs k v).length<=kvs.length+1:=by
 unfold putK
 split
 ·rw[List.length_map];omega
 ·rw[List.length_append,List.length_cons,List.length_nil];omega
theorem ig {kvs:List (κ×V)} {k:κ} (v:V) (h:cf kvs k=none):putK kvs k v=kvs++[(k,v)]:=by
 unfold putK
 rw[fF,h]
 exact if_neg (by decide)
theorem i7.kA {o:Option V} {u:Option Value} (r:i7 o u):o.isSome=u.isSome:=by
 cases o with
 | none=>cases u with
  | none=>rfl
  | some _=>exact (show False from r).elim
 | some _=>cases u with
  | none=>exact (show False from r).elim
  | some _=>rfl
theorem KV.val {kvs:List (κ×V)} {vs:List (κ×Value)} (r:KV kvs vs) (k:κ):i7 (cf kvs k) (valueAt vs k):=by
 unfold KV at r
 induction r with
 | nil=>exact True.intro
 | @cons p q ps qs h t ih=>
  obtain ⟨h1,h2⟩:=h
  by_cases e:p.1=k
  ·have e':q.1=k:=h1.symm.trans e
   have b:valueAt (q::qs) k=some q.2:=by simp[valueAt,List.find?_cons,e']
   rw[bT e,b];exact h2
  ·have e': ¬q.1=k:=fun z=>e (h1.trans z)
   have b:valueAt (q::qs) k=valueAt qs k:=by simp[valueAt,List.find?_cons,e']
   rw[bu e,b];exact ih
theorem KV.any {kvs:List (κ×V)} {vs:List (κ×Value)} (r:KV kvs vs) (k:κ):(kvs.any fun kv=>decide (kv.1=k))=vs.any fun kv=>decide (kv.1=k):=by
 unfold KV at r
 induction r with
 | nil=>rfl
 | cons h t ih=>rw[List.any_cons,List.any_cons,ih,h.1]
theorem KV.GQ {kvs:List (κ×V)} {vs:List (κ×Value)} (r:KV kvs vs) (k:κ) {y:V} {u:Value} (ry:RelV y u):
  KV (kvs.map fun kv=>if kv.1=k then (kv.1,y) else kv) (vs.map fun kv=>if kv.1=k then (kv.1,u) else kv):=by
 unfold KV at r ⊢
 induction r with
 | nil=>exact .nil
 | @cons p q ps qs h t ih=>
  rw[List.map_cons,List.map_cons]
  refine .cons ?_ ih
  obtain ⟨h1,h2⟩:=h
  by_cases e:p.1=k
  ·rw[if_pos e,if_pos (h1.symm.trans e)];exact ⟨h1,ry⟩
  ·rw[if_neg e,if_neg (fun z=>e (h1.trans z))];exact ⟨h1,h2⟩
theorem KV.put {kvs:List (κ×V)} {vs:List (κ×Value)} (r:KV kvs vs) (k:κ) {y:V} {u:Value} (ry:RelV y u):KV (putK kvs k y) (stored vs k u):=by
 unfold putK stored
 rw[r.any k]
 by_cases e:(vs.any fun kv=>decide (kv.1=k))=true
 ·rw[if_pos e,if_pos e];exact r.GQ k ry
 ·rw[if_neg e,if_neg e];exact Paired.snoc r ⟨rfl,ry⟩
theorem KV.keys {kvs:List (κ×V)} {vs:List (κ×Value)} (r:KV kvs vs):kvs.map (·.1)=vs.map (·.1):=by
 unfold KV at r
 induction r with
 | nil=>rfl
 | cons h t ih=>rw[List.map_cons,List.map_cons,ih,h.1]
theorem KV.length {kvs:List (κ×V)} {vs:List (κ×Value)} (r:KV kvs vs):kvs.length=vs.length:=Paired.length r
end
theorem rl {P:Program} {w:World} {k:Key} {u:Value} (r:RelV (kV k) u):(bI P w).is k u=true:=by
 cases k with
 | inl i=>obtain ⟨t,e⟩:=(show ∃t,u=Value.int i t from r);subst e;exact qJ P w i t
 | inr x=>obtain ⟨t,e⟩:=(show ∃t,u=Value.str x t from r);subst e;exact qK P w x t
theorem oA {P:Program} {w:World}: ∀{ks:List Key} {us:List Value},Vals (ks.map kV) us->ItemsAre (bI P w) ks us
 | [],_,r=>by rw[List.map_nil]at r;cases r;exact .nil
 | k::ks,_,r=>by
  rw[List.map_cons]at r
  cases r with
  | cons h t=>exact .cons (rl h) (oA t)
abbrev KT (H:Hp):List (List Key×V)->List (List Key×Addr×Value)->Prop:=Paired fun p q=>p.1=q.1/\H q.2.1=some (.tup (p.1.map kV))/\RelV p.2 q.2.2
theorem KT.val {H:Hp} {kvs:List (List Key×V)} {xs:List (List Key×Addr×Value)} (r:KT H kvs xs) (k:List Key):i7 (cf kvs k) ((atKey xs k).map (·.2)):=by
 induction r with
 | nil=>exact True.intro
 | @cons p q ps qs h t ih=>
  obtain ⟨h1,_,h2⟩:=h
  by_cases e:p.1=k
  ·have e':q.1=k:=h1.symm.trans e
   have b:atKey (q::qs) k=some q.2:=by simp[atKey,List.find?_cons,e']
   rw[bT e,b];exact h2
  ·have e': ¬q.1=k:=fun z=>e (h1.trans z)
   have b:atKey (q::qs) k=atKey qs k:=by simp[atKey,List.find?_cons,e']
   rw[bu e,b];exact ih
theorem KT.GQ {H:Hp} {kvs:List (List Key×V)} {xs:List (List Key×Addr×Value)} (r:KT H kvs xs) (k:List Key) {y:V} {u:Value} (ry:RelV y u):
  KT H (kvs.map fun kv=>if kv.1=k then (kv.1,y) else kv) (xs.map (putAt k u)):=by
 induction r with
 | nil=>exact .nil
 | @cons p q ps qs h t ih=>
  rw[List.map_cons,List.map_cons]
  refine .cons ?_ ih
  obtain ⟨h1,h2,h3⟩:=h
  unfold putAt
  by_cases e:p.1=k
  ·rw[if_pos e,if_pos (h1.symm.trans e)];exact ⟨h1,h2,ry⟩
  ·rw[if_neg e,if_neg (fun z=>e (h1.trans z))];exact ⟨h1,h2,h3⟩
theorem KT.put {H:Hp} {kvs:List (List Key×V)} {xs:List (List Key×Addr×Value)} (r:KT H kvs xs) (k:List Key) {b:Addr} {y:V} {u:Value} (hb:H b=some (.tup (k.map kV))) (ry:RelV y u):
  KT H (putK kvs k y) (storedH xs k b u):=by
 have e:(kvs.any fun kv=>decide (kv.1=k))=(atKey xs k).isSome:=by
  rw[fF,(r.val k).kA,Option.isSome_map]
 unfold putK storedH
 rw[e]
 by_cases q:(atKey xs k).isSome=true
 ·rw[if_pos q,if_pos q];exact r.GQ k ry
 ·rw[if_neg q,if_neg q];exact Paired.snoc r ⟨rfl,hb,ry⟩
theorem KT.keeps {H H':Hp} {kvs:List (List Key×V)} {xs:List (List Key×Addr×Value)} (r:KT H kvs xs) (ht: ∀b ys,H b=some (.tup ys)->H' b=some (.tup ys)):KT H' kvs xs:=
 Paired.FO r fun _ _ z=>⟨z.1,ht _ _ z.2.1,z.2.2⟩
section
variable {P:Program} {w:World} {H:Hp} {h:Heap} {a:Addr}
theorem EZ {u:HO} (ok:gD P w H h) (e:Rd H a u):bG P w H h a u:=e.ok ok
theorem vS {kvs:List (Key×V)} (ok:gD P w H h) (e:Rd H a (.dK kvs)):kvs.length<=sizeLine/\(a==sysModules)=false/\ ∃vs,KV kvs vs/\h.DictOf (bI P w) a vs:=
 show bG P w H h a (.dK kvs) from EZ ok e
theorem z_ {kvs:List (Key×V)} (ok:gD P w H h) (e:H a=some (.dK kvs)):kvs.length<=sizeLine/\(a==sysModules)=false/\ ∃vs,KV kvs vs/\h.DictOf (bI P w) a vs:=vS ok (.inl e)
theorem pX {ks:List Key} (ok:gD P w H h) (e:H a=some (.tup (ks.map kV))):(tupleKind (bI P w)).is h ks a:=by
 obtain ⟨_,aL,r,o,h1,h2,n,h3⟩:=(show bG P w H h a (.tup (ks.map kV)) from ok a _ e)
 exact ⟨o,aL.toArray,n,h1,h2,h3,by simpa using oA r⟩
theorem rm {kvs:List (List Key×V)} (ok:gD P w H h) (e:Rd H a (.dT kvs)):kvs.length<=sizeLine/\(a==sysModules)=false/\
  ∃xs,KT H kvs xs/\h.DictOfH (tupleKind (bI P w)) a xs:=by
 obtain ⟨z,y,xs,r,o,es,ep,h1,h2,h3,h4,h5⟩:=(show bG P w H h a (.dT kvs) from EZ ok e)
 refine ⟨z,y,xs,r,o,es,ep,h1,h2,h3,h4,fun x hx=>?_,h5⟩
 have all: ∀{l:List (List Key×V)} {m:List (List Key×Addr×Value)},KT H l m-> ∀x∈m,(tupleKind (bI P w)).is h x.1 x.2.1:=by
  intro l m q
  induction q with
  | nil=>intro x hx;exact nomatch hx
  | @cons p q ps qs hq t ih=>
   intro x hx
   rcases List.mem_cons.mp hx with e | hx
   ·subst e
    exact pX ok (by rw[<-hq.1];exact hq.2.1)
   ·exact ih x hx
 exact all r x hx
theorem Lb {kvs:List (List Key×V)} (ok:gD P w H h) (e:H a=some (.dT kvs)):kvs.length<=sizeLine/\(a==sysModules)=false/\
  ∃xs,KT H kvs xs/\h.DictOfH (tupleKind (bI P w)) a xs:=rm ok (.inl e)
end
def cj (H:Hp) (a:Addr) (y:V) (r:Option V):Prop:=
 (∃kvs k,Rd H a (.dK kvs)/\y=kV k/\r=cf kvs k)\/ ∃kvs k b,Rd H a (.dT kvs)/\y= .ref b/\H b=some (.tup (k.map kV))/\r=cf kvs k
def mn (H:Hp) (a:Addr) (y v:V) (H':Hp):Prop:=
 (∃kvs k,H a=some (.dK kvs)/\y=kV k/\kvs.length<sizeLine/\H'=upd H a (.dK (putK kvs k v)))\/
 ∃kvs k b,H a=some (.dT kvs)/\y= .ref b/\H b=some (.tup (k.map kV))/\kvs.length<sizeLine/\H'=upd H a (.dT (putK kvs k v))
theorem cj.k {H:Hp} {a:Addr} {kvs:List (Key×V)} {k:Key} (e:H a=some (.dK kvs)):cj H a (kV k) (cf kvs k):= .inl ⟨kvs,k, .inl e,rfl,rfl⟩
theorem cj.t {H:Hp} {a b:Addr} {kvs:List (List Key×V)} {k:List Key} (e:H a=some (.dT kvs)) (eb:H b=some (.tup (k.map kV))):cj H a (.ref b) (cf kvs k):= .inr ⟨kvs,k,b, .inl e,rfl,eb,rfl⟩
theorem mn.k {H:Hp} {a:Addr} {kvs:List (Key×V)} {k:Key} {v:V} (e:H a=some (.dK kvs)) (hl:kvs.length<sizeLine):mn H a (kV k) v (upd H a (.dK (putK kvs k v))):= .inl ⟨kvs,k,e,rfl,hl,rfl⟩
theorem mn.t {H:Hp} {a b:Addr} {kvs:List (List Key×V)} {k:List Key} {v:V} (e:H a=some (.dT kvs)) (eb:H b=some (.tup (k.map kV))) (hl:kvs.length<sizeLine):
  mn H a (.ref b) v (upd H a (.dT (putK kvs k v))):= .inr ⟨kvs,k,b,e,rfl,eb,hl,rfl⟩
section
variable {X:Cx} {pins:List (Addr×Obj)} {σ:St} {H:Hp} {s:Shared} {a:Addr} {y v:V} {u r:Value} {o:Option V} {A:Around} {E:Value->Shared->Prop}
theorem Inv.big (I:Inv X pins σ H s):sysModules<s.heap.objs.size:=by
 have h:mainGlobals<s.heap.objs.size:=(I.mod.glob.keeps I.bk).lt
 exact Nat.lt_trans (by decide) h
theorem xx {Q:Value->Shared->Prop} (hu:A.units+1<cLine) (I:Inv X pins σ H s) (g:cj H a y (some v)) (ry:RelV y u) (h: ∀w' s',Inv X pins σ H s'->RelV v w'->Q w' s'):
  wpAny (model X.prog X.w) A (getItem (.ref a) u) Q E s:=by
 rcases g with ⟨kvs,k,e,ey,l⟩ | ⟨kvs,k,b,e,ey,eb,l⟩
 ·subst ey
  obtain ⟨z,hd,vs,rel,dd⟩:=vS I.aX e
  obtain ⟨w',hw,wY⟩:=i7.some_of (v:=v) (o:=valueAt vs k) (by rw[l];exact rel.val k)
  exact wpAny_getItem_of (rl ry) dd.mapOf hw (h w' _ (I.tok _) wY)
 ·subst ey
  cases (show u=Value.ref b from ry)
  obtain ⟨z,hd,xs,rel,dd⟩:=rm I.aX e
  obtain ⟨w',hw,wY⟩:=i7.some_of (v:=v) (o:=(atKey xs k).map (·.2)) (by rw[l];exact rel.val k)
  obtain ⟨p,hp,kW⟩:=Option.map_eq_some_iff.mp hw
  refine wpAny_getItem_heap (tupleKind_room_in1 hu) (pX I.aX eb) dd hp ?_
  rw[kW]
  exact h w' _ (I.tok _) wY
theorem C0 {Q:Value->Shared->Prop} (hu:A.units+1<cLine) (I:Inv X pins σ H s) (g:cj H a y o) (ry:RelV y u) (h: ∀s',Inv X pins σ H s'->Q (.bool (!o.isSome)) s'):
  wpAny (model X.prog X.w) A (compareOp .NotIn u (.ref a)) Q E s:=by
 rcases g with ⟨kvs,k,e,ey,l⟩ | ⟨kvs,k,b,e,ey,eb,l⟩
 ·subst ey
  obtain ⟨z,hd,vs,rel,dd⟩:=vS I.aX e
  refine wpAny_notIn_of (rl ry) hd dd.mapOf ?_
  rw[<-(rel.val k).kA, <-l]
  exact h _ (I.tok _)
 ·subst ey
  cases (show u=Value.ref b from ry)
  obtain ⟨z,hd,xs,rel,dd⟩:=rm I.aX e
  refine wpAny_notIn_heap (tupleKind_room_in1 hu) (pX I.aX eb) hd dd ?_
  have q:=(rel.val k).kA
  rw[Option.isSome_map]at q
  rw[<-q, <-l]
  exact h _ (I.tok _)
theorem pY {h':Heap} {t':Nat} {ob:HO} (I:Inv X pins σ H s) (mu:J9 (H a)) (hs:Heap.SameBut a s.heap h') (he: ∃q,h'.get? a=some q) (new:bG X.prog X.w (upd H a ob) h' a ob):
  Inv X pins σ (upd H a ob) { s with heap:=h',toks:=t' }:=
 I.write (x:=a) (e:=a) mu (.inl rfl) (fun b q hb z=>(hs.2 b hb).trans z) he new
theorem Aa {P:Program} {w:World} {H':Hp} {h':Heap} {kvs:List (Key×V)} {vs:List (Key×Value)} (z:kvs.length<=sizeLine) (hd:(a==sysModules)=false) (rel:KV kvs vs) (dd:h'.DictOf (bI P w) a vs):
  bG P w H' h' a (.dK kvs):=⟨z,hd,vs,rel,dd⟩
theorem xy {H':Hp} {Q:Unit->Shared->Prop} (hu:A.units+1<cLine) (I:Inv X pins σ H s) (g:mn H a y v H') (ry:RelV y u) (rv:RelV v r) (h: ∀s',Inv X pins σ H' s'->Q () s'):
  wpAny (model X.prog X.w) A (setItem (.ref a) u r) Q E s:=by
 rcases g with ⟨kvs,k,e,ey,l,eH⟩ | ⟨kvs,k,b,e,ey,eb,l,eH⟩
 ·subst ey eH
  obtain ⟨z,hd,vs,rel,dd⟩:=z_ I.aX e
  have hz:vs.length<=sizeLine:=by rw[<-rel.length];exact z
  have hl:(putK kvs k v).length<=sizeLine:=by have:=fQ kvs k v;omega
  refine wpAny_setItem_pairs (hsz:=hz) (rl ry) dd fun h' E1 hs=>h _ ?_
  have he: ∃q,h'.get? a=some q:=let ⟨q,_,_,hq,_⟩:=E1;⟨q,hq⟩
  exact pY I (by rw[e];exact True.intro) hs he (Aa hl hd (rel.put k rv) E1)
 ·subst ey eH
  cases (show u=Value.ref b from ry)
  obtain ⟨z,hd,xs,rel,dd⟩:=Lb I.aX e
  have hz:xs.length<=sizeLine:=by rw[<-Paired.length rel];exact z
  have hl:(putK kvs k v).length<=sizeLine:=by have:=fQ kvs k v;omega
  refine wpAny_setItem_heap (hsz:=hz) (tupleKind_room_in1 hu) (pX I.aX eb) dd fun h' E1 hs=>h _ ?_
  obtain ⟨q,es,ep,hq,h2,h3,h4,_,h5⟩:=E1
  refine pY I (by rw[e];exact True.intro) hs ⟨q,hq⟩ ⟨hl,hd,_,(rel.put k eb rv).keeps fun c ys ec=>?_,q,es,ep,hq,h2,h3,h4,h5⟩
  rw[aj (J6 ec e (fun z=>nomatch z))]
  exact ec
end
section
variable {X:Cx} {pins:List (Addr×Obj)} {σ:St} {H:Hp} {s:Shared} {a:Addr} {kvs:List (Key×V)} {k:Key} {u:Value} {A:Around} {E:Value->Shared->Prop}
end
def Ld (i:Expr):Prop:= ∀ov iv,subscripted i false ov iv=operate [ov,iv] (getItem ov iv)
theorem C1 {prog:Program} {w:World} {A:Around} {E:Value->Shared->Prop} {s:Shared} {env:Env} {value slice:Expr} {pos:Pos} {T id:String} {Q:Value->Shared->Prop}
  (hl:typeLookup (.type T) "__getitem__"=pure (some (.builtin id))) (hs:Ld slice)
  (h:wpAny (model prog w) A (eval value env) (fun o s₁=>wpAny (model prog w) A (eval slice env) (fun i s₂=>s₂.TypeIs o T/\wpAny (model prog w) A (getItem o i) Q E s₂) E s₁) E s):
  wpAny (model prog w) A (eval (.Subscript value slice pos) env) Q E s:=by
 refine Subscript_ (wpAny_mono h (fun o s₁ h₁=>wpAny_mono h₁ (fun i s₂ h₂=>?_) fun _ _ x=>x) fun _ _ x=>x)
 obtain ⟨hT,h₂⟩:=h₂
 unfold subscriptTail
 refine wpAny_bind ?_
 rw[getitemInPython_of_ne hT.not_modules]
 refine wpAny_bind (wpAny_specialOf hT hl ?_)
 have fin:wpAny (model prog w) A (subscripted slice false o i) (fun r s₃=>wpAny (model prog w) A (letTemporaryGo value o r >>= fun _=>pure r) Q E s₃) E s₂:=by
  rw[hs o i]
  exact wpAny_operating (wpAny_mono h₂ (fun r s₃ h₃=>wpAny_bind (wpAny_letTemporaryGo (wpAny_pure h₃))) fun _ _ x=>x)
 first
  | exact wpAny_pure (wpAny_bind fin)
  | exact wpAny_bind (wpAny_pure (wpAny_bind fin))
  | exact wpAny_bind fin
theorem rn {X:Cx} {pins:List (Addr×Obj)} {σ:St} {H:Hp} {s:Shared} {a:Addr} {y:V} {o:Option V} (I:Inv X pins σ H s) (g:cj H a y o):s.TypeIs (.ref a) "dict":=by
 rcases g with ⟨kvs,k,e,_,_⟩ | ⟨kvs,k,b,e,_,_,_⟩
 ·obtain ⟨_,_,vs,_,dd⟩:=vS I.aX e
  exact dd.typeIs
 ·obtain ⟨_,_,xs,_,dd⟩:=rm I.aX e
  exact dd.typeIs
def Le (td ty:TE):TE:=fun σ H Q=>td σ H fun x H1=>ty σ H1 fun y H2=> ∃a v,x= .ref a/\cj H2 a y (some v)/\Q v H2
def C2 (ty td:TE):TE:=fun σ H Q=>ty σ H fun y H1=>td σ H1 fun x H2=> ∃a o,x= .ref a/\cj H2 a y o/\Q (.bl (!o.isSome)) H2
def Lf (td ty tv:TE):TS:=fun D σ H=>tv σ H fun v H1=>td σ H1 fun x H2=>ty σ H2 fun y H3=> ∃a H4,x= .ref a/\mn H3 a y v H4/\D.nx σ H4
section
variable {X:Cx} {o i e value:Expr} {pos pos' Kq:Pos} {td ty tv:TE}
theorem bW (hu:X.A.units+1<cLine) (ho:PE X o td) (hi:PE X i ty) (hs:Ld i):PE X (.Subscript o i pos) (Le td ty):=by
 intro pins s σ H Q I h
 refine C1 PySem.F.slot_dict_getitem.lookup hs (bQ (ho pins s σ H _ I h) fun u s1 ⟨x,H1,I1,rx,q1⟩=>bQ (hi pins s1 σ H1 _ I1 q1) fun iv s2 ⟨y,H2,I2,ry,a,v,ex,g,q2⟩=>?_)
 subst ex
 obtain rfl:u=Value.ref a:=rx
 exact ⟨rn I2 g,xx hu I2 g ry fun w' s3 I3 wY=>⟨v,H2,I3,wY,q2⟩⟩
theorem xA (hu:X.A.units+1<cLine) (hi:PE X i ty) (ho:PE X o td):PC X .NotIn i o (C2 ty td):=by
 intro pins s σ H Q I h
 refine bQ (hi pins s σ H _ I h) fun iv s1 ⟨y,H1,I1,ry,q1⟩=>bQ (ho pins s1 σ H1 _ I1 q1) fun u s2 ⟨x,H2,I2,rx,a,ov,ex,g,q2⟩=>?_
 subst ex
 obtain rfl:u=Value.ref a:=rx
 exact C0 hu I2 g ry fun s3 I3=>⟨.bl (!ov.isSome),H2,I3,rfl,q2⟩
theorem jZ (hu:X.A.units+1<cLine) (ho:PE X o td) (hi:PE X i ty) (hv:PE X value tv) (hs:swapsWith value (some (.Subscript o i pos')) pos.line X.env=pure false):
  PS X (.Assign [.Subscript o i pos'] value pos) (Lf td ty tv):=by
 intro pins s σ H D I h
 refine wpAny_Assign_Subscript (bQ (hv pins s σ H _ I h) fun r s1 ⟨v,H1,I1,rv,q1⟩=>bQ (ho pins s1 σ H1 _ I1 q1) fun u s2 ⟨x,H2,I2,rx,q2⟩=>bQ (hi pins s2 σ H2 _ I2 q2) fun iv s3 ⟨y,H3,I3,ry,a,H4,ex,g,q3⟩=>?_) hs
 subst ex
 obtain rfl:u=Value.ref a:=rx
 exact xy hu I3 g ry rv fun s4 I4=>⟨σ,H4,I4,q3⟩
end
theorem rp {P:Program} {w:World} {H:Hp} (h:Heap) (hb:sysModules<h.objs.size):bG P w H (h.push { cls:= .type "dict",data:= .dict #[] }) h.objs.size (.dK []):=
 ⟨Nat.zero_le _,beq_eq_false_iff_ne.mpr (Ne.symm (Nat.ne_of_lt hb)),[], .nil,Heap.DictOf.new h⟩
theorem Ab {P:Program} {w:World} {H:Hp} (h:Heap) (hb:sysModules<h.objs.size):bG P w H (h.push { cls:= .type "dict",data:= .dict #[] }) h.objs.size (.dT []):=
 ⟨Nat.zero_le _,beq_eq_false_iff_ne.mpr (Ne.symm (Nat.ne_of_lt hb)),[], .nil,_, #[],0,Heap.get?_push_size _ rfl,⟨rfl,rfl,rfl⟩,rfl,rfl,List.nodup_nil⟩
def GR:TE:=fun _ H Q=> ∀p,H p=none->Q (.ref p) (upd H p (.dK []))
def GS:TE:=fun _ H Q=> ∀p,H p=none->Q (.ref p) (upd H p (.dT []))
section
variable {X:Cx} {pos:Pos}
theorem rq:PE X (.Dict [] [] pos) GR:=fun pins s σ H Q I h=>
 wpAny_Dict_empty ⟨.ref s.heap.objs.size,_,I.laid (a:=s.heap.objs.size) (o:= .dK []) (t':=s.toks) (fun _ _ q=>Heap.get?_push_of_some _ q) (Nat.le_refl _) (rp s.heap I.big),rfl,h _ (I.aX.fresh (Nat.le_refl _))⟩
theorem Ac:PE X (.Dict [] [] pos) GS:=fun pins s σ H Q I h=>
 wpAny_Dict_empty ⟨.ref s.heap.objs.size,_,I.laid (a:=s.heap.objs.size) (o:= .dT []) (t':=s.toks) (fun _ _ q=>Heap.get?_push_of_some _ q) (Nat.le_refl _) (Ab s.heap I.big),rfl,h _ (I.aX.fresh (Nat.le_refl _))⟩
end
def uF:List (TE×TE)->St->Hp->(List (V×V)->Hp->Prop)->Prop
 | [],_,H,Q=>Q [] H
 |(tk,tv)::r,σ,H,Q=>tk σ H fun x H1=>tv σ H1 fun y H2=>uF r σ H2 fun ps H3=>Q ((x,y)::ps) H3
abbrev VV:List (V×V)->List (Value×Value)->Prop:=Paired fun p q=>RelV p.1 q.1/\RelV p.2 q.2
def NT (X:Cx) (pos:Pos) (keys:List (Option Expr)) (values:List Expr) (C3:List (TE×TE)):Prop:=
 ∀(pins:List (Addr×Obj)) (s:Shared) (σ:St) (H:Hp) (Q:List (V×V)->Hp->Prop),Inv X pins σ H s->uF C3 σ H Q->
  wpAny (model X.prog X.w) X.A (evalPairs (pairTrees keys values X.env pos)) (fun vs s'=> ∃ps H',Inv X pins σ H' s'/\VV ps vs/\Q ps H') X.xe s
theorem C4 {X:Cx} {pos:Pos}:NT X pos [] [] []:=fun pins s σ H Q I h=>pairTrees_nil_walk ⟨[],H,I, .nil,h⟩
theorem mq {X:Cx} {pos:Pos} {k v:Expr} {ks:List (Option Expr)} {vs:List Expr} {tk tv:TE} {C3:List (TE×TE)} (hk:PE X k tk) (hv:PE X v tv) (hr:NT X pos ks vs C3):
  NT X pos (some k::ks) (v::vs) ((tk,tv)::C3):=fun pins s σ H Q I h=>
 pairTrees_cons_walk (bQ (hk pins s σ H _ I h) fun u s1 ⟨x,H1,I1,rx,q1⟩=>bQ (hv pins s1 σ H1 _ I1 q1) fun w2 s2 ⟨y,H2,I2,ry,q2⟩=>
  bQ (hr pins s2 σ H2 _ I2 q2) fun ws s3 ⟨ps,H3,I3,rel,q3⟩=>⟨(x,y)::ps,H3,I3, .cons ⟨rx,ry⟩ rel,q3⟩)
noncomputable def ij (kvs more:List (Key×V)):List (Key×V):=more.foldl (fun acc kv=>putK acc kv.1 kv.2) kvs
theorem KV.merge: ∀{more:List (Key×V)} {rs:List (Key×Value)} {kvs:List (Key×V)} {vs:List (Key×Value)},KV more rs->KV kvs vs->KV (ij kvs more) (merged vs rs):=by
 intro more rs kvs vs r
 unfold KV at r
 induction r generalizing kvs vs with
 | nil=>intro q;exact q
 | @cons p q ps qs h t ih=>
  intro r0
  have e:KV (putK kvs p.1 p.2) (stored vs q.1 q.2):=by
   have:=r0.put p.1 h.2
   rw[<-h.1];exact this
  exact ih e
theorem jg: ∀(more kvs:List (Key×V)),(ij kvs more).length<=kvs.length+more.length
 | [],kvs=>by show kvs.length<=kvs.length+0;omega
 | p::r,kvs=>by
  have h1:=jg r (putK kvs p.1 p.2)
  have h2:=fQ kvs p.1 p.2
  show (ij (putK kvs p.1 p.2) r).length<=_
  rw[List.length_cons];omega
theorem mr {P:Program} {w:World}: ∀{kvs:List (Key×V)} {ws:List (Value×Value)},VV (kvs.map fun kv=>(kV kv.1,kv.2)) ws-> ∃rs,Carries (bI P w) ws rs/\KV kvs rs
 | [],_,r=>by rw[List.map_nil]at r;cases r;exact ⟨[],True.intro, .nil⟩
 | p::kvs,_,r=>by
  rw[List.map_cons]at r
  cases r with
  | @cons a b as bs h t=>
   obtain ⟨rs,c,q⟩:=mr (P:=P) (w:=w) t
   obtain ⟨b1,b2⟩:=b
   exact ⟨(p.1,b2)::rs,⟨rl h.1,rfl,c⟩, .cons ⟨rfl,h.2⟩ q⟩
def Lg (C3:List (TE×TE)):TE:=fun σ H Q=> ∀p,H p=none->uF C3 σ (upd H p (.dK [])) fun ps H2=>H2 p=some (.dK [])/\ ∃kvs:List (Key×V),ps=kvs.map (fun kv=>(kV kv.1,kv.2))/\kvs.length<=15/\Q (.ref p) (upd H2 p (.dK (ij [] kvs)))
theorem C5 {X:Cx} {pos:Pos} {keys:List (Option Expr)} {values:List Expr} {C3:List (TE×TE)} (h:NT X pos keys values C3) (fz:keys.all (·.isSome)=true) (hl:keys.length=values.length) (h0:keys≠[])
  (XA:keys.length<=15):PE X (.Dict keys values pos) (Lg C3):=by
 intro pins s σ H Q I q
 have hn:=I.aX.fresh (Nat.le_refl s.heap.objs.size)
 have I1:=I.laid (a:=s.heap.objs.size) (o:= .dK []) (h':=s.heap.push { cls:= .type "dict",data:= .dict #[] }) (t':=s.toks) (fun _ _ q=>Heap.get?_push_of_some _ q) (Nat.le_refl _) (rp s.heap I.big)
 refine wpAny_Dict_walk (knd:=bI X.prog X.w) fz hl h0 XA (bQ (h pins _ σ _ _ I1 (q _ hn)) fun ws s2 ⟨ps,H2,I2,rel,e,kvs,ep,lk,q2⟩=>?_)
 subst ep
 obtain ⟨rs,c,rk⟩:=mr (P:=X.prog) (w:=X.w) rel
 obtain ⟨z,hd,vs0,r0,dd⟩:=z_ I2.aX e
 cases r0
 refine ⟨rs,c,dd,fun h' E1 hs=>⟨.ref s.heap.objs.size,_,?_,rfl,q2⟩⟩
 have hz:(ij [] kvs).length<=sizeLine:=by
  have h1:=jg kvs []
  rw[List.length_nil]at h1
  rw[sizeLine_eq];omega
 have he: ∃q,h'.get? s.heap.objs.size=some q:=let ⟨q,_,_,hq,_⟩:=E1;⟨q,hq⟩
 exact pY I2 (by rw[e];exact True.intro) hs he (Aa hz hd (rk.merge .nil) E1)
structure M1 (X:Cx) (o:Expr) (m:Str) (apos:Pos) (e:Expr) (dX:Pos):Prop where
 base:attributeBase o m X.env (eval o X.env)=eval o X.env
 kX:((backTo dX (starEach [e] X.env)).all (fun x=>!x.1)&&(backToKw dX (keywordEach [] X.env)).all (fun x=>x.1.isSome)
  &&decide (([e]:List Expr).length+([]:List Keyword).length+(if ([]:List Keyword).isEmpty then 0 else 1)<30))=true
 line:(apos.endLine==dX.line)=true
 trees:backTo dX (starEach [e] X.env)=[(false,eval e X.env)]
structure M2 (X:Cx) (o:Expr) (m:Str) (apos:Pos) (e f:Expr) (dX:Pos):Prop where
 base:attributeBase o m X.env (eval o X.env)=eval o X.env
 kX:((backTo dX (starEach [e,f] X.env)).all (fun x=>!x.1)&&(backToKw dX (keywordEach [] X.env)).all (fun x=>x.1.isSome)
  &&decide (([e,f]:List Expr).length+([]:List Keyword).length+(if ([]:List Keyword).isEmpty then 0 else 1)<30))=true
 line:(apos.endLine==dX.line)=true
 trees:backTo dX (starEach [e,f] X.env)=[(false,eval e X.env),(false,eval f X.env)]
section
variable {X:Cx} {pins:List (Addr×Obj)} {σ:St} {H:Hp} {s:Shared} {a:Addr} {y d:V} {u r:Value} {o:Option V} {A:Around} {E:Value->Shared->Prop}
end
section
variable {X:Cx} {o e f:Expr} {apos dX:Pos} {td ty tx:TE}
end
section
variable {X:Cx} {pins:List (Addr×Obj)} {σ:St} {H:Hp} {s:Shared} {a:Addr} {kvs:List (Key×V)} {A:Around} {E:Value->Shared->Prop}
end
section
variable {X:Cx} {pins:List (Addr×Obj)} {σ:St} {H:Hp} {s:Shared} {a:Addr} {y:V} {u:Value} {A:Around} {E:Value->Shared->Prop}
end
end L2
namespace L2
open PySem PySem.Spec PyProof.Rows
section
variable {prog:Program} {w:World} {A:Around} {E:Value->Shared->Prop} {s:Shared}
theorem rz {d:Addr} {o:Obj} {es:Array DictEntry} {ep:Nat} {Q:Value->Shared->Prop} (hd:(d==sysModules)=false) (ho:s.heap.get? d=some o) (hx:o.ExactDict) (GU:o.data= .dict es ep) (XB:(es.size:Int)<2 ^ 63)
  (q: ∀tk vT,Q (.int es.size tk) { s with toks:=vT }):wpAny (model prog w) A (call (.builtin "len") [.ref d]) Q E s:=by
 have B_:s.TypeIs (.ref d) "dict":=⟨o,ho,hx.1⟩
 refine Calls.call_function_entry kind_len plain_len entry_len (args_len1 _) ?_
 unfold Builtin.«len»
 refine wpAny_bind (m:=oneArg "len" _) (wpAny_pure (wpAny_bind (m:=callSpecial? (.ref d) (Str.ofString "__len__")) (wpAny_callSpecial?_slot (name:=Str.ofString "__len__") B_ F.slot_dict_len (wpAny_call_entry F.slot_dict_len B_ F.entry_dict_len ?_ (F.args_dict_len_1 _)))))
 show wpAny _ _ (dictSize d >>= fun x=>Builtin.Dict.pendingCount d >>= fun y=>_) _ _ s
 unfold dictSize
 refine wpAny_bind (wpAny_bind (wpAny_dictEntries ho GU (wpAny_pure (wpAny_bind (wpAny_pendingCount_other hd ?_)))))
 refine wpAny_bind (wpAny_mkInt (wpAny_pure ⟨_,rfl,?_⟩))
 rw[Nat.add_zero]
 refine wpAny_bind (wpAny_holding (wpAny_pure (wpAny_bind (wpAny_letGo ?_))))
 show wpAny _ _ (if ((es.size:Nat):Int)<0 then _ else _) _ _ _
 rw[if_neg (by omega)]
 show wpAny _ _ (if ((es.size:Nat):Int) ≥ 2 ^ 63 then _ else _) _ _ _
 rw[if_neg (by omega)]
 exact wpAny_bind (wpAny_mkInt (wpAny_pure ⟨_,rfl,q _ _⟩))
end
section
variable {X:Cx}
theorem KT.len {H:Hp}: ∀{kvs:List (List Key×V)} {xs:List (List Key×Addr×Value)},KT H kvs xs->xs.length=kvs.length
 | _,_, .nil=>rfl
 | _,_, .cons _ t=>congrArg (· +1) (KT.len t)
theorem oB:cS X (.builtin "len") (fun xs H Q=> ∃a kvs,xs=[V.ref a]/\H a=some (.dT kvs)/\Q (.int kvs.length) H):=by
 intro pins s σ H xs us Q I r h
 obtain ⟨a,kvs,rfl,ha,q⟩:=h
 obtain ⟨u,rfl,ru⟩:=vals1 r
 cases ru
 obtain ⟨z,hd,ys,rel,o,es,ep,h1,h2,h3,h4,_⟩:=rm I.aX (.inl ha)
 have e:es.size=kvs.length:=by
  rw[<-KT.len rel, <-Array.length_toList,h4,List.length_map]
 have hl:(sizeLine:Int)<2 ^ 62:=by decide
 refine rz hd h1 h2 h3 (by rw[e];omega) fun tk vT=>?_
 rw[e]
 exact ⟨.int kvs.length,H,I.tok _,⟨_,rfl⟩,q⟩
end
end L2
set_option maxHeartbeats 1000000
namespace L2
open PySem PySem.Spec PyProof.Rows
section
variable {prog:Program} {w:World} {KK:Type} [DecidableEq KK] {knd:KeyKind prog w KK}
end
section
variable {X:Cx}
end
end L2
set_option maxHeartbeats 1000000
namespace L2.F2
open PySem PySem.Spec PyProof.Rows
end L2.F2
namespace L2
open PySem PySem.Spec PyProof.Rows
section
variable {prog:Program} {w:World} {A:Around} {E:Value->Shared->Prop} {s:Shared}
end
section
variable {X:Cx}
end
end L2
set_option maxHeartbeats 1000000
namespace L2
open PySem PySem.Spec PyProof.Rows
section
variable {prog:Program} {w:World} {A:Around} {E:Value->Shared->Prop} {s:Shared}
theorem mv {h h':Heap} {l b:Addr} {items:Array Value} (x:h.IsList l items) (k:Heap.ExtBut b h h') (n:l≠b):h'.IsList l items:=let ⟨o,ho,r⟩:=x;⟨o,k l o n ho,r⟩
theorem oE {it l:Addr} {items:Array Value} (gR:l≠it): ∀(n i:Nat) (s:Shared) (Q:List Value->Shared->Prop),s.heap.IsListIter it l i->s.heap.IsList l items->i+n<=items.size->
  (∀h',h'.IsListIter it l (i+n)->Heap.SameBut it s.heap h'->Q ((items.toList.drop i).take n) { s with heap:=h' })->wpAny (model prog w) A (draw (.ref it) n) Q E s
 | 0,i,s,Q,hit,_,_,hQ=>by
  show wpAny _ _ (pure []) Q E s
  exact wpAny_pure (by simpa using hQ s.heap hit (Heap.SameBut.refl ..))
 | n+1,i,s,Q,hit,ht,hle,hQ=>by
  have eK:i<items.size:=by omega
  show wpAny _ _ (pyNext (.ref it) >>= _) Q E s
  refine wpAny_bind (wpAny_pyNext_list_item hit ht (x:=items[i]) (by simp[eK]) fun h₁ GV Lh=>?_)
  refine wpAny_bind (wpAny_holding (oE gR n (i+1) _ _ GV (mv ht Lh.extBut gR) (by omega) fun h₂ Qq XD=>wpAny_pure ?_))
  have hd:items.toList.drop i=items[i]::items.toList.drop (i+1):=by simp[List.drop_eq_getElem_cons,eK]
  have:=hQ h₂ (by rw[show i+(n+1)=i+1+n by omega];exact Qq) (Lh.trans XD)
  rw[hd,List.take_succ_cons]at this
  exact this
theorem kB {t:Addr} {items:Array Value} {Q:List Value->Shared->Prop} (hh:A.handled=none) (ht:s.heap.IsList t items)
  (hQ: ∀h',Heap.ExtBut s.heap.objs.size s.heap h'->Q items.toList { s with heap:=h' }):wpAny (model prog w) A (unpackItems (.ref t) items.size none) Q E s:=by
 have eK:t≠s.heap.objs.size:=by obtain ⟨o,ho,_⟩:=ht;exact Nat.ne_of_lt (Heap.lt_size ho)
 have hT:s.TypeIs (.ref t) "list":=let ⟨o,ho,hc,_⟩:=ht;⟨o,ho,hc⟩
 unfold unpackItems
 refine wpAny_bind ?_
 unfold notIterableAtAll
 refine wpAny_bind (wpAny_specialOf hT PySem.F.slot_list_iter.lookup ?_)
 refine wpAny_pure ?_
 simp only[Bool.false_eq_true,if_false]
 refine wpAny_bind (wpAny_holding (wpAny_pyIter_list ht ?_))
 have NU: ∀o:Obj,(s.heap.push o).IsList t items:=fun o=>let ⟨ob,ho,r⟩:=ht;⟨ob,Heap.get?_push_of_some _ ho,r⟩
 refine wpAny_bind (wpAny_holding (oE eK items.size 0 _ _ ⟨_,Heap.get?_push_size _ rfl,rfl,rfl⟩ (NU _) (by omega) fun h₁ GV Lh=>?_))
 have fz:List.take items.size (List.drop 0 items.toList)=items.toList:=by
  rw[List.drop_zero];exact List.take_of_length_le (by simp)
 rw[fz]
 rw[if_neg (by simp)]
 have XE:h₁.IsList t items:=mv (NU _) Lh.extBut eK
 refine wpAny_bind (wpAny_holding (wpAny_pyNext_list_end hh GV XE (by simp) fun h₂ XF=>?_))
 simp only[Option.isSome_none,Bool.false_eq_true,if_false]
 refine wpAny_pure (hQ h₂ fun b o hb e=>XF b o hb (Lh.extBut b o hb (Heap.get?_push_of_some _ e)))
theorem j0 {env:Env} {elts:List Expr} {x1} {pos:Pos} {t:Addr} {items:Array Value} {Q:Unit->Shared->Prop} (hh:A.handled=none) (ht:s.heap.IsList t items)
  (hn:(assignEach elts env).length=items.size) (Li:(assignEach elts env).findIdx? (·.1)=none)
  (h: ∀h',Heap.ExtBut s.heap.objs.size s.heap h'->wpAny (model prog w) A (assignInOrder ((assignEach elts env).map (·.2)) items.toList) Q E { s with heap:=h' }):
  wpAny (model prog w) A (assign (.Tuple elts x1 pos) env (.ref t)) Q E s:=by
 rw[assign_Tuple]
 refine wpAny_bind (wpAny_standAt ?_)
 unfold unpack
 rw[hn,Li]
 exact wpAny_bind (wpAny_holding (kB hh ht h))
end
section
variable {X:Cx}
def Qr (K:PySem.W.Frag) (n:Nat) (t:B8):TG:=fun v σ H Q=> ∃a xs,v= .ref a/\aJ K H a xs/\xs.length=n/\t xs σ H Q
theorem vU (K:PySem.W.Frag) (h:X.K=K) {es:List Expr} {k:Nat} {t:B8} {n:Nat} {pos:Pos} (hc:X.calm=true) (hs:Ju X es t)
  (hn:(assignEach es X.env).length=n:=by rfl) (Kj:(assignEach es X.env).findIdx? (·.1)=none:=by rfl):PG X (.Tuple es k pos) (Qr K n t):=by
 subst h
 intro pins s σ H v u Q I r hw
 obtain ⟨a,xs,e1,hq,hl,hw⟩:=hw
 subst e1
 cases r
 obtain ⟨aL,rv,ht,hz⟩:=I.list hq
 refine j0 (I.ok.hd hc) ht.isList (by simp[hn, <-hl,rv.length]) Kj fun h' hx=>?_
 have I1:Inv X pins σ H { s with heap:=h' }:=I.kept (t':=s.toks) fun b o e=>hx b o (Nat.ne_of_lt (Heap.lt_size e)) e
 exact hs pins _ σ H xs _ Q I1 (by simpa using rv) hw
end
end L2
set_option maxHeartbeats 2000000
namespace L2
open PySem PySem.Spec PyProof.Rows
section
variable {prog:Program} {w:World} {A:Around} {E:Value->Shared->Prop} {s:Shared}
end
section
variable {X:Cx}
end
noncomputable def dd {α:Type} [DecidableEq α]:List α->List α->List α
 | σ,[]=>σ
 | σ,x::l=>dd (if x∈σ then σ else σ++[x]) l
section
variable {prog:Program} {w:World} {A:Around} {E:Value->Shared->Prop} {s:Shared}
end
section
variable {prog:Program} {w:World} {A:Around} {E:Value->Shared->Prop} {s:Shared}
end
section
variable {X:Cx}
noncomputable def C6 (q:Addr) (n:Nat):HO:= .ext fun h=> ∃(o:Obj) (es:Array (Int×Value)) (ep:Nat) (t:SetTable),h.get? q=some o/\o.ExactSet/\o.data= .set es ep t/\t.fits es.size=true/\es.size=n
end
end L2
namespace L2
open PySem PySem.Spec PyProof.Rows
section
variable {prog:Program} {w:World} {A:Around} {E:Value->Shared->Prop} {s:Shared}
end
section
variable {X:Cx}
end
section
variable {X:Cx}
end
end L2
namespace L2
open PySem PySem.Spec PyProof.Rows
section
variable {X:Cx} {st:Stmt} {rest:List Stmt} {t u:TS}
end
end L2
namespace L2
open PySem PySem.Spec PyProof.Rows
section
variable {X:Cx}
end
end L2
namespace L2
open PySem PySem.Spec PyProof.Rows
section
variable {X:Cx}
end
section
variable {prog:Program} {w:World} {A:Around} {E:Value->Shared->Prop} {s:Shared}
structure ZA (z TI TO i1 i2:Addr) (f1 f2:List Addr):Prop where
 m1:i1∈f1
 m2:i2∈f2
 z1:z∉f1
 z2:z∉f2
 o1:TO∉f1
 o2:TO∉f2
 c1:i1∉f2
 c2:i2∉f1
 tz:TI≠z
 tt:TI≠TO
 t1:TI≠i1
 t2:TI≠i2
 oz:TO≠z
theorem nm {a b:Addr} {f:List Addr} (h:a∈f) (n:b∉f):a≠b:=fun z=>n (z▸h)
section
variable {z TI TO i1 i2:Addr} {f1 f2:List Addr} {n1 n2 i:Nat} {P1 P2:Nat->Value->Prop} {S1 S2:Nat->Heap->Prop} {a b:Value}
theorem xB {Q:Value->Shared->Prop} (D1:Draws prog w A i1 f1 n1 P1 S1) (D2:Draws prog w A i2 f2 n2 P2 S2) (Z:ZA z TI TO i1 i2 f1 f2)
  (hz:IsZip s.heap z TI TO .none) (GW:IsPair s.heap TI (.ref i1) (.ref i2)) (JB:IsPair s.heap TO a b) (h1:S1 i s.heap) (h2:S2 i s.heap) (l1:i<n1) (l2:i<n2)
  (hQ: ∀x y h' tk,P1 i x->P2 i y->IsZip h' z TI TO (rawInt s.heap.objs.size)->IsPair h' TO x y->S1 (i+1) h'->S2 (i+1) h'->IsPair h' s.heap.objs.size x y->h'.objs.size=s.heap.objs.size+1->
   (∀c o,c≠z->c≠TO->c≠i1->c≠i2->s.heap.get? c=some o->h'.get? c=some o)->Q (.ref s.heap.objs.size) { s with heap:=h',toks:=tk }):
  wpAny (model prog w) A (Builtin.«zip.__next__» ⟨[.ref z],[]⟩) (fun fin s'=> ∃v,fin= .done (.ret v)/\Q v s') E s:=by
 obtain ⟨hp,g,d,XG,os⟩:=s
 have i1z:=nm Z.m1 Z.z1
 have i2z:=nm Z.m2 Z.z2
 have XH:=nm Z.m1 Z.o1
 have XI:=nm Z.m2 Z.o2
 have i21:=nm Z.m2 Z.c1
 refine wpAny_bind (m:=field (.ref z) 2) (wpAny_field hz rfl (x:= .bool false) rfl ?_)
 refine wpAny_bind (m:=field (.ref z) 3) (wpAny_field hz rfl (x:= .ref TI) rfl ?_)
 refine wpAny_bind (m:=seqItems? (.ref TI)) (wpAny_seqItems GW rfl ?_)
 refine wpAny_bind (m:=Builtin.SmallTypes.ownedTupleIsFree (.ref z)) ?_
 (unfold Builtin.SmallTypes.ownedTupleIsFree;refine wpAny_bind (m:=field (.ref z) 0) (wpAny_field hz rfl (x:= .none) rfl (wpAny_pure ?_)))
 simp only[if_true]
 refine wpAny_bind (wpAny_rule ?_);refine wpAny_bind (m:=field (.ref z) 4) (wpAny_field hz rfl (x:= .ref TO) rfl ?_)
 refine wpAny_bind (wpAny_setField_rec hz (by simp) fun k1 GX zd=>?_)
 replace GX:IsZip k1 z TI TO .ellipsis:=GX
 replace zd:Heap.SameBut z hp k1:=zd
 refine wpAny_bind ?_;simp only[List.zipIdx_cons,List.zipIdx_nil,List.forIn_cons,List.forIn_nil]
 refine wpAny_bind (wpAny_bind (wpAny_onRaise ?_));refine wpAny_bind (m:=Builtin.SmallTypes.nextOf (.ref i1)) ?_
 refine D1.item i _ _ _ l1 (D1.frame _ _ _ h1 fun c hc o e=>zd.extBut _ _ (nm hc Z.z1) e) fun x k2 tk2 px iJ Cc=>wpAny_pure ?_
 replace Cc:Heap.SameBut i1 k1 k2:=Cc
 have to2:IsPair k2 TO a b:=Cc.extBut _ _ (Ne.symm XH) (zd.extBut _ _ Z.oz JB)
 refine wpAny_bind (m:=seqItems? (.ref TO)) (wpAny_seqItems to2 rfl ?_)
 refine wpAny_bind (wpAny_updateSeq_pair to2 fun k3 to3 Cd=>?_)
 replace to3:IsPair k3 TO x b:=to3
 replace Cd:Heap.SameBut TO k2 k3:=Cd
 refine wpAny_bind (wpAny_letGo (wpAny_pure ?_));refine wpAny_bind (wpAny_bind (wpAny_onRaise ?_))
 refine wpAny_bind (m:=Builtin.SmallTypes.nextOf (.ref i2)) ?_
 refine D2.item i _ _ _ l2 (D2.frame _ _ _ h2 fun c hc o e=>Cd.extBut _ _ (nm hc Z.o2) (Cc.extBut _ _ (nm hc Z.c1) (zd.extBut _ _ (nm hc Z.z2) e))) fun y k4 XJ py Ce GY=>wpAny_pure ?_
 replace GY:Heap.SameBut i2 k3 k4:=GY
 have Vj:IsPair k4 TO x b:=GY.extBut _ _ (Ne.symm XI) to3
 refine wpAny_bind (m:=seqItems? (.ref TO)) (wpAny_seqItems Vj rfl ?_)
 refine wpAny_bind (wpAny_updateSeq_pair Vj fun k5 NV GZ=>?_)
 replace NV:IsPair k5 TO x y:=NV
 replace GZ:Heap.SameBut TO k4 k5:=GZ
 refine wpAny_bind (wpAny_letGo (wpAny_pure (wpAny_pure ?_)));refine wpAny_bind (m:=seqItems? (.ref TO)) (wpAny_seqItems NV rfl ?_)
 refine wpAny_bind (wpAny_newTuple ?_)
 have sz:k5.objs.size=hp.objs.size:=by rw[GZ.1,GY.1,Cd.1,Cc.1,zd.1]
 have z5:IsZip k5 z TI TO .ellipsis:=GZ.extBut _ _ (Ne.symm Z.oz) (GY.extBut _ _ (Ne.symm i2z) (Cd.extBut _ _ (Ne.symm Z.oz) (Cc.extBut _ _ (Ne.symm i1z) GX)))
 have kp: ∀c o,c≠z->c≠TO->c≠i1->c≠i2->hp.get? c=some o->k5.get? c=some o:=fun c o c1 c2 c3 c4 e=>GZ.extBut _ _ c2 (GY.extBut _ _ c4 (Cd.extBut _ _ c2 (Cc.extBut _ _ c3 (zd.extBut _ _ c1 e))))
 have Cf:S1 (i+1) k5:=D1.frame _ _ _ iJ fun c hc o e=>GZ.extBut _ _ (nm hc Z.o1) (GY.extBut _ _ (nm hc Z.c2) (Cd.extBut _ _ (nm hc Z.o1) e))
 have XM:S2 (i+1) k5:=D2.frame _ _ _ Ce fun c hc o e=>GZ.extBut _ _ (nm hc Z.o2) e
 have zl:z<k5.objs.size:=Heap.lt_size z5
 refine wpAny_bind (m:=Builtin.SmallTypes.ownedTupleHandOut (.ref z) (.ref k5.objs.size)) ?_
 have z6:IsZip (k5.push { cls:= .type "tuple",data:= .seq #[x,y] }) z TI TO .ellipsis:=Heap.get?_push_of_some _ z5
 (unfold Builtin.SmallTypes.ownedTupleHandOut;refine wpAny_bind (wpAny_setField_rec z6 (by simp) fun k7 z7 s7=>?_))
 replace z7:IsZip k7 z TI TO (rawInt k5.objs.size):=z7
 refine wpAny_setField_rec z7 (by simp) fun k8 z8 s8=>?_
 replace z8:IsZip k8 z TI TO (rawInt k5.objs.size):=z8
 have up: ∀c o,c≠z->k5.get? c=some o->k8.get? c=some o:=fun c o c1 e=>s8.extBut _ _ c1 (s7.extBut _ _ c1 (Heap.get?_push_of_some _ e))
 have t8:IsPair k8 k5.objs.size x y:=s8.extBut _ _ (Nat.ne_of_gt zl) (s7.extBut _ _ (Nat.ne_of_gt zl) (Heap.get?_push_size _ rfl))
 have e8:k8.objs.size=k5.objs.size+1:=by rw[s8.1,s7.1,Heap.size_push]
 rw[sz]at z8 t8 e8
 refine wpAny_pure ⟨_,rfl,?_⟩
 show Q (.ref k5.objs.size) _
 rw[sz]
 exact hQ x y k8 XJ px py z8 (up _ _ Z.oz NV) (D1.frame _ _ _ Cf fun c hc o e=>up c o (nm hc Z.z1) e) (D2.frame _ _ _ XM fun c hc o e=>up c o (nm hc Z.z2) e) t8 e8 fun c o c1 c2 c3 c4 e=>up c o c1 (kp c o c1 c2 c3 c4 e)
theorem Ad {Q:Fin->Shared->Prop} (D1:Draws prog w A i1 f1 n1 P1 S1) (Z:ZA z TI TO i1 i2 f1 f2)
  (hz:IsZip s.heap z TI TO .none) (GW:IsPair s.heap TI (.ref i1) (.ref i2)) (JB:IsPair s.heap TO a b) (h1:S1 n1 s.heap)
  (hE: ∀h' e,(∀c o,c≠z->c≠TO->c≠i1->c≠i2->s.heap.get? c=some o->h'.get? c=some o)->(∃o,h'.get? e=some o/\o.cls= .type "StopIteration")->E (.ref e) { s with heap:=h' }):
  wpAny (model prog w) A (Builtin.«zip.__next__» ⟨[.ref z],[]⟩) Q E s:=by
 obtain ⟨hp,g,d,XG,os⟩:=s
 have i1z:=nm Z.m1 Z.z1
 refine wpAny_bind (m:=field (.ref z) 2) (wpAny_field hz rfl (x:= .bool false) rfl ?_)
 refine wpAny_bind (m:=field (.ref z) 3) (wpAny_field hz rfl (x:= .ref TI) rfl ?_)
 refine wpAny_bind (m:=seqItems? (.ref TI)) (wpAny_seqItems GW rfl ?_)
 refine wpAny_bind (m:=Builtin.SmallTypes.ownedTupleIsFree (.ref z)) ?_
 (unfold Builtin.SmallTypes.ownedTupleIsFree;refine wpAny_bind (m:=field (.ref z) 0) (wpAny_field hz rfl (x:= .none) rfl (wpAny_pure ?_)))
 simp only[if_true]
 refine wpAny_bind (wpAny_rule ?_);refine wpAny_bind (m:=field (.ref z) 4) (wpAny_field hz rfl (x:= .ref TO) rfl ?_)
 refine wpAny_bind (wpAny_setField_rec hz (by simp) fun k1 GX zd=>?_)
 replace GX:IsZip k1 z TI TO .ellipsis:=GX
 replace zd:Heap.SameBut z hp k1:=zd
 refine wpAny_bind ?_;simp only[List.zipIdx_cons,List.zipIdx_nil,List.forIn_cons,List.forIn_nil]
 refine wpAny_bind (wpAny_bind (wpAny_onRaise ?_));refine wpAny_bind (m:=Builtin.SmallTypes.nextOf (.ref i1)) ?_
 refine D1.done _ _ _ (D1.frame _ _ _ h1 fun c hc o e=>zd.extBut _ _ (nm hc Z.z1) e) fun k2 e Cc he=>?_
 obtain ⟨oe,vV,Vk⟩:=he
 have z2:IsZip k2 z TI TO .ellipsis:=Cc _ _ (Ne.symm i1z) GX
 have ez:e≠z:=fun x=>by subst x;rw[z2]at vV;cases vV;simp at Vk
 refine wpAny_setField_rec z2 (by simp) fun k3 _ Cd=>hE k3 e (fun c o c1 _ c3 _ x=>Cd.extBut _ _ c1 (Cc _ _ c3 (zd.extBut _ _ c1 x))) ⟨oe,Cd.extBut _ _ ez vV,Vk⟩
theorem my {Q:Option Value->Shared->Prop} (D1:Draws prog w A.in1 i1 f1 n1 P1 S1) (D2:Draws prog w A.in1 i2 f2 n2 P2 S2) (Z:ZA z TI TO i1 i2 f1 f2)
  (hz:IsZip s.heap z TI TO .none) (GW:IsPair s.heap TI (.ref i1) (.ref i2)) (JB:IsPair s.heap TO a b) (h1:S1 i s.heap) (h2:S2 i s.heap) (l1:i<n1) (l2:i<n2)
  (hQ: ∀x y h' tk,P1 i x->P2 i y->IsZip h' z TI TO (rawInt s.heap.objs.size)->IsPair h' TO x y->S1 (i+1) h'->S2 (i+1) h'->IsPair h' s.heap.objs.size x y->h'.objs.size=s.heap.objs.size+1->
   (∀c o,c≠z->c≠TO->c≠i1->c≠i2->s.heap.get? c=some o->h'.get? c=some o)->Q (some (.ref s.heap.objs.size)) { s with heap:=h',toks:=tk }):
  wpAny (model prog w) A (pyNext (.ref z)) Q E s:=by
 have hT:s.TypeIs (.ref z) "zip":=⟨_,hz,rfl⟩
 unfold pyNext
 exact wpAny_bind (wpAny_attempt (wpAny_callSpecial?_slot (name:=Str.ofString "__next__") hT F.slot_zip_next (wpAny_call_entry F.slot_zip_next hT F.entry_zip_next
   (xB D1 D2 Z hz GW JB h1 h2 l1 l2 fun x y h' tk p1 p2 a1 a2 a3 a4 a5 a6 a7=>wpAny_pure (hQ x y h' tk p1 p2 a1 a2 a3 a4 a5 a6 a7)) (F.args_zip_next_1 _))))
theorem oG {Q:Option Value->Shared->Prop} (D1:Draws prog w A.in1 i1 f1 n1 P1 S1) (Z:ZA z TI TO i1 i2 f1 f2)
  (hz:IsZip s.heap z TI TO .none) (GW:IsPair s.heap TI (.ref i1) (.ref i2)) (JB:IsPair s.heap TO a b) (h1:S1 n1 s.heap)
  (hQ: ∀h',(∀c o,c≠z->c≠TO->c≠i1->c≠i2->s.heap.get? c=some o->h'.get? c=some o)->Q none { s with heap:=h' }):wpAny (model prog w) A (pyNext (.ref z)) Q E s:=by
 have hT:s.TypeIs (.ref z) "zip":=⟨_,hz,rfl⟩
 unfold pyNext
 refine wpAny_bind (wpAny_attempt (wpAny_callSpecial?_slot (name:=Str.ofString "__next__") hT F.slot_zip_next (wpAny_call_entry F.slot_zip_next hT F.entry_zip_next (Ad D1 Z hz GW JB h1 fun h' e hk he=>?_) (F.args_zip_next_1 _))))
 obtain ⟨o,ho,hc⟩:=he
 refine wpAny_bind (wpAny_isInstance (T:="StopIteration") (b:=true) ⟨o,ho,hc⟩ isSubtype_stop (wpAny_pure (hQ _ hk)))
end
structure ZS (P:Program) (w:World) (K:PySem.W.Frag) (a it:Addr) (Sq:Hp->List V->Prop) (IT:Nat->Heap->Prop):Prop where
 obj: ∀i h,IT i h-> ∃o,h.get? it=some o/\ ∀v,o.data≠ .cell v
 keep: ∀i h h',IT i h->(∀o,h.get? it=some o->h'.get? it=some o)->IT i h'
 inj: ∀(X:Cx),X.K=K-> ∀(pins:List (Addr×Obj)) (s:Shared) (σ:St) (H:Hp),Inv X pins σ H s-> ∀xs ys,Sq H xs->Sq H ys->xs=ys
 draws: ∀(X:Cx),X.prog=P->X.w=w->X.K=K->X.calm=true-> ∀(pins:List (Addr×Obj)) (s:Shared) (σ:St) (H:Hp),Inv X pins σ H s-> ∀xs,Sq H xs->a≠it->
  ∃(aL:List Value) (SS:Nat->Heap->Prop),Vals xs aL/\Draws P w X.A.in1 it [it,a] aL.length (fun i v=>aL[i]? =some v) SS/\(∀i,IT i s.heap->SS i s.heap)/\ ∀i h,SS i h->IT i h
theorem Ae {P:Program} {w:World} {K:PySem.W.Frag} (a it:Addr):ZS P w K a it (fun H xs=>aN K H a xs) (fun i h=>h.IsTupleIter it a i) where
 obj:=fun i h st=>by
  obtain ⟨o,ho,hc,hd⟩:=st
  exact ⟨o,ho,fun v z=>by rw[hd]at z;cases z⟩
 keep:=fun i h h' st k=>by
  obtain ⟨o,ho,r⟩:=st
  exact ⟨o,k o ho,r⟩
 inj:=fun X hK pins s σ H I xs ys h1 h2=>by subst hK;exact I.kj h1 h2
 draws:=fun X hP hw hK hc pins s σ H I xs hq ne=>by
  subst hP hw hK
  obtain ⟨aL,rv,p,_⟩:=I.tuple hq
  have D:=ie (prog:=X.prog) (w:=X.w) (A:=X.A.in1) (I.ok.hd hc) it a ne aL.toArray
  refine ⟨aL,fun i h=>h.IsTupleIter it a i/\h.IsTuple a aL.toArray,rv,?_,fun i h=>⟨h,p⟩,fun i h z=>z.1⟩
  have e:aL.toArray.size=aL.length:=List.size_toArray
  rw[<-e]
  refine ⟨D.live,D.frame,fun i s Q E hi st q=>D.item i s Q E hi st fun x h' tk hx=>q x h' tk (by simpa using hx),D.done⟩
theorem G0 {P:Program} {w:World} {K:PySem.W.Frag} (a it:Addr):ZS P w K a it (fun H xs=>aJ K H a xs) (fun i h=>h.IsListIter it a i) where
 obj:=fun i h st=>by
  obtain ⟨o,ho,hc,hd⟩:=st
  exact ⟨o,ho,fun v z=>by rw[hd]at z;cases z⟩
 keep:=fun i h h' st k=>by
  obtain ⟨o,ho,r⟩:=st
  exact ⟨o,k o ho,r⟩
 inj:=fun X hK pins s σ H I xs ys h1 h2=>by subst hK;exact I.lR h1 h2
 draws:=fun X hP hw hK hc pins s σ H I xs hq ne=>by
  subst hP hw hK
  obtain ⟨aL,rv,p,_⟩:=I.list hq
  have D:=Draws.list (prog:=X.prog) (w:=X.w) (A:=X.A.in1) (I.ok.hd hc) it a ne aL.toArray
  refine ⟨aL,fun i h=>h.IsListIter it a i/\h.IsList a aL.toArray,rv,?_,fun i h=>⟨h,p.isList⟩,fun i h z=>z.1⟩
  have e:aL.toArray.size=aL.length:=List.size_toArray
  rw[<-e]
  refine ⟨D.live,D.frame,fun i s Q E hi st q=>D.item i s Q E hi st fun x h' tk hx=>q x h' tk (by simpa using hx),D.done⟩
noncomputable def E2 (Sq1 Sq2:Hp->List V->Prop):It:=⟨fun i H=> ∃xs ys x y,Sq1 H xs/\Sq2 H ys/\xs[i]? =some x/\ys[i]? =some y,
 fun i H x H'=> ∃T u v,(∀xs,Sq1 H xs->xs[i]? =some u)/\(∀ys,Sq2 H ys->ys[i]? =some v)/\x= .ref T/\H T=none/\H'=upd H T (.tup [u,v]),
 fun i H=> ∃xs,Sq1 H xs/\(∃ys,Sq2 H ys)/\xs.length=i⟩
theorem Af {P:Program} {w:World} {K:PySem.W.Frag} {elts:List Expr} {k:Nat} {pos:Pos} {a1 a2 z TI TO i1 i2:Addr} {Sq1 Sq2:Hp->List V->Prop} {I1 I2:Nat->Heap->Prop}
  (W1:ZS P w K a1 i1 Sq1 I1) (W2:ZS P w K a2 i2 Sq2 I2) (Z:ZA z TI TO i1 i2 [i1,a1] [i2,a2]) (n1:a1≠i1) (n2:a2≠i2):
  Turn P w K (.Tuple elts k pos) (E2 Sq1 Sq2) [z,TI,TO,i1,i2] z (fun i h=>IsZip h z TI TO .none/\IsPair h TI (.ref i1) (.ref i2)/\(∃a b,IsPair h TO a b)/\I1 i h/\I2 i h) where
 mem:=by simp
 obj:=fun i h st b hb=>by
  obtain ⟨q1,q2,⟨a,b',q3⟩,q4,q5⟩:=st
  simp only[List.mem_cons,List.not_mem_nil,or_false]at hb
  rcases hb with g | g | g | g | g<;>rw[g]
  ·exact ⟨_,q1,fun v z=>by cases z⟩
  ·exact ⟨_,q2,fun v z=>by cases z⟩
  ·exact ⟨_,q3,fun v z=>by cases z⟩
  ·exact W1.obj i h q4
  ·exact W2.obj i h q5
 keep:=fun i h h' st kp=>by
  obtain ⟨q1,q2,⟨a,b',q3⟩,q4,q5⟩:=st
  exact ⟨kp z (by simp) _ q1,kp TI (by simp) _ q2,⟨a,b',kp TO (by simp) _ q3⟩,W1.keep _ _ _ q4 fun o e=>kp i1 (by simp) o e,W2.keep _ _ _ q5 fun o e=>kp i2 (by simp) o e⟩
 item:=by
  intro X hP hw hK hc i pins s σ H E I hf st hg
  obtain ⟨q1,q2,⟨a,b',q3⟩,q4,q5⟩:=st
  obtain ⟨xs,ys,x,y,hx,hy,gx,gy⟩:=hg
  obtain ⟨xi,SX,rx,DX,ux,vx⟩:=W1.draws X hP hw hK hc pins s σ H I xs hx n1
  obtain ⟨yi,SY,ry,DY,uy,vy⟩:=W2.draws X hP hw hK hc pins s σ H I ys hy n2
  obtain ⟨u0,hu,ru⟩:=rx.get gx
  obtain ⟨w0,JC,Qs⟩:=ry.get gy
  have Qt:=W1.inj X hK pins s σ H I
  have Qu:=W2.inj X hK pins s σ H I
  subst hP hw hK
  refine my DX DY Z q1 q2 q3 (ux i q4) (uy i q5) (List.getElem?_eq_some_iff.mp hu).1 (List.getElem?_eq_some_iff.mp JC).1 fun x2 y2 h' tk p1 p2 e1 e2 e3 e4 e5 e6 e7=>⟨_,rfl,?_⟩
  have ex:x2=u0:=Option.some.inj (p1.symm.trans hu)
  have ey:y2=w0:=Option.some.inj (p2.symm.trans JC)
  subst ex
  subst ey
  have lt: ∀{c o},s.heap.get? c=some o->s.heap.objs.size≠c:=fun e=>Nat.ne_of_gt (Heap.lt_size e)
  obtain ⟨o1,g1⟩:=DX.live _ _ (ux i q4)
  obtain ⟨o2,g2⟩:=DY.live _ _ (uy i q5)
  have zc:s.heap.objs.size∉[z,TI,TO,i1,i2]:=by
   simp only[List.mem_cons,List.not_mem_nil,or_false,not_or]
   exact ⟨lt q1,lt q2,lt q3,lt g1,lt g2⟩
  refine wpAny_letOwnedTupleGo_zip e1 fun h2 z2 sb=>?_
  have kk: ∀b o,b∉[z,TI,TO,i1,i2]->s.heap.get? b=some o->h2.get? b=some o:=fun b o hb e=>by
   simp only[List.mem_cons,List.not_mem_nil,or_false,not_or]at hb
   exact sb.extBut _ _ hb.1 (e7 b o hb.1 hb.2.2.1 hb.2.2.2.1 hb.2.2.2.2 e)
  have jW:h2.IsTuple s.heap.objs.size #[x2,y2]:=⟨_,sb.extBut _ _ (lt q1) e5,rfl,_,rfl⟩
  refine ⟨.ref s.heap.objs.size,upd H s.heap.objs.size (.tup [x,y]),?_,rfl,⟨s.heap.objs.size,x,y,fun zs G5=>by rw[Qt zs xs G5 hx];exact gx,fun zs G5=>by rw[Qu zs ys G5 hy];exact gy,rfl,I.aX.fresh (Nat.le_refl _),rfl⟩,
   ⟨z2,sb.extBut _ _ Z.tz (e7 _ _ Z.tz Z.tt Z.t1 Z.t2 q2),⟨_,_,sb.extBut _ _ Z.oz e2⟩,vx _ _ (DX.frame _ _ _ e3 fun c hc o e=>sb.extBut _ _ (nm hc Z.z1) e),vy _ _ (DY.frame _ _ _ e4 fun c hc o e=>sb.extBut _ _ (nm hc Z.z2) e)⟩,fun b hb=>?_⟩
  ·refine I.ic (t':=tk) (h':=h2) kk hf (Nat.le_refl _) ?_
   exact ⟨by show 2<=sizeLine;decide,[x2,y2], .cons ru (.cons Qs .nil),jW⟩
  ·rw[aj (fun q:b=s.heap.objs.size=>zc (q▸hb))];exact (hf b hb).1
 done:=by
  intro X hP hw hK hc i pins s σ H E I hf st hg
  obtain ⟨q1,q2,⟨a,b',q3⟩,q4,q5⟩:=st
  obtain ⟨xs,hx,⟨ys,hy⟩,el⟩:=hg
  obtain ⟨xi,SX,rx,DX,ux,vx⟩:=W1.draws X hP hw hK hc pins s σ H I xs hx n1
  have hl:=rx.length
  subst hP hw hK
  have e0:i=xi.length:=by omega
  subst e0
  refine oG DX Z q1 q2 q3 (ux _ q4) fun h' hk=>⟨rfl,I.jV (t':=s.toks) (ch:=[z,TI,TO,i1,i2]) (fun b o hb e=>?_) hf⟩
  simp only[List.mem_cons,List.not_mem_nil,or_false,not_or]at hb
  exact hk b o hb.1 hb.2.2.1 hb.2.2.2.1 hb.2.2.2.2 e
 self:=fun _ _ s _ _ st h=>wpAny_pyIter_zip st.1 h
noncomputable abbrev JD (h:Heap) (c:String) (l:Addr):Heap:=h.push { cls:= .type c,data:= .fields #[.ref l, .int 0 0] }
noncomputable abbrev NW (h:Heap) (c d:String) (l m:Addr):Heap:=JD (JD h c l) d m
noncomputable abbrev NX (h:Heap) (c d:String) (l m:Addr):Heap:=(NW h c d l m).push { cls:= .type "tuple",data:= .seq #[.ref h.objs.size, .ref (JD h c l).objs.size] }
noncomputable abbrev Lj (h:Heap) (c d:String) (l m:Addr):Heap:=(NX h c d l m).push { cls:= .type "tuple",data:= .seq #[.none, .none] }
noncomputable abbrev G6 (h:Heap) (c d:String) (l m:Addr):Heap:=(Lj h c d l m).push { cls:= .type "zip",data:= .fields #[.none, .bool false, .bool false, .ref (NW h c d l m).objs.size, .ref (NX h c d l m).objs.size] }
theorem rA (l m:Addr) (xs ys:Array Value):Meets (Builtin.«zip.__new__» ⟨[.type "zip", .ref l, .ref m],[]⟩) (fun _ R s=>s.heap.IsList l xs/\s.heap.IsTuple m ys/\R (.ok (.ret (.ref (Lj s.heap "list_iterator" "tuple_iterator" l m).objs.size))) { s with heap:=G6 s.heap "list_iterator" "tuple_iterator" l m }):=
 .of_wp fun prog w A R s h=>by
  obtain ⟨hp,g,d,tk,os⟩:=s;obtain ⟨q1,q2,h⟩:=h;have CY:=sub_zip
  have k1:Heap.IsList (Shared.heap ⟨hp,g,d,tk,os⟩) l xs:=q1
  have k2:Heap.IsTuple (Shared.heap ⟨hp.push { cls:= .type "list_iterator",data:= .fields #[.ref l, .int 0 0] },g,d,tk,os⟩) m ys:=by
   obtain ⟨o,e,r⟩:=q2
   exact ⟨o,Heap.get?_push_of_some _ e,r⟩
  wp_walk using wpAny_pyIter_list k1,wpAny_pyIter_tuple k2
  exact ⟨_,rfl,h⟩
def Vl (c d:String) (P1 P2:Heap->Prop) (l m:Addr):Prop:= ∀(prog:Program) (w:World) (A:Around) (E:Value->Shared->Prop) (s:Shared) (Q:Value->Shared->Prop),P1 s.heap->P2 s.heap->
  (∀h',IsZip h' (s.heap.objs.size+4) (s.heap.objs.size+2) (s.heap.objs.size+3) .none->IsPair h' (s.heap.objs.size+2) (.ref s.heap.objs.size) (.ref (s.heap.objs.size+1))->
   IsPair h' (s.heap.objs.size+3) .none .none->h'.get? s.heap.objs.size=some { cls:= .type c,data:= .fields #[.ref l, .int 0 0] }->h'.get? (s.heap.objs.size+1)=some { cls:= .type d,data:= .fields #[.ref m, .int 0 0] }->
   (∀b o,s.heap.get? b=some o->h'.get? b=some o)->Q (.ref (s.heap.objs.size+4)) { s with heap:=h' })->
  wpAny (model prog w) A (call (.type "zip") [.ref l, .ref m]) Q E s
theorem G7 {c d:String} {P1 P2:Heap->Prop} {l m:Addr} (M:Meets (Builtin.«zip.__new__» ⟨[.type "zip", .ref l, .ref m],[]⟩) (fun _ R s=>P1 s.heap/\P2 s.heap/\R (.ok (.ret (.ref (Lj s.heap c d l m).objs.size))) { s with heap:=G6 s.heap c d l m })):Vl c d P1 P2 l m:=by
 intro prog w A E s Q p1 p2 h
 refine callType_new F.called_zip (by decide) (F.typeCall_zip_2 _ _) (F.newCall_zip_2 _ _) (fun ob=>F.args_object_init_3 ob _ _) F.entry_zip_new M ⟨p1,p2,?_⟩
 have e1:(JD s.heap c l).objs.size=s.heap.objs.size+1:=Heap.size_push ..
 have e2:(NW s.heap c d l m).objs.size=s.heap.objs.size+2:=by rw[Heap.size_push,e1]
 have e3:(NX s.heap c d l m).objs.size=s.heap.objs.size+3:=by rw[Heap.size_push,e2]
 have e4:(Lj s.heap c d l m).objs.size=s.heap.objs.size+4:=by rw[Heap.size_push,e3]
 have g5:(G6 s.heap c d l m).get? (Lj s.heap c d l m).objs.size=some _:=Heap.get?_push_size _ rfl
 have g4:(G6 s.heap c d l m).get? (NX s.heap c d l m).objs.size=some _:=Heap.get?_push_of_some _ (Heap.get?_push_size _ rfl)
 have g3:(G6 s.heap c d l m).get? (NW s.heap c d l m).objs.size=some _:=Heap.get?_push_of_some _ (Heap.get?_push_of_some _ (Heap.get?_push_size _ rfl))
 have g2:(G6 s.heap c d l m).get? (JD s.heap c l).objs.size=some _:=Heap.get?_push_of_some _ (Heap.get?_push_of_some _ (Heap.get?_push_of_some _ (Heap.get?_push_size _ rfl)))
 have g1:(G6 s.heap c d l m).get? s.heap.objs.size=some _:=Heap.get?_push_of_some _ (Heap.get?_push_of_some _ (Heap.get?_push_of_some _ (Heap.get?_push_of_some _ (Heap.get?_push_size _ rfl))))
 show _/\_
 rw[e2,e3,e4]at g5
 rw[e1,e2]at g3
 rw[e3]at g4
 rw[e1]at g2
 rw[e4]
 exact ⟨⟨_,g5,rfl⟩,h _ g5 g3 g4 g1 g2 fun b o x=>Heap.get?_push_of_some _ (Heap.get?_push_of_some _ (Heap.get?_push_of_some _ (Heap.get?_push_of_some _ (Heap.get?_push_of_some _ x))))⟩
theorem C7 {a b c:Nat} (h1:a≠b) (h2:a≠c):(a:Addr)∉([b,c]:List Addr):=fun h=>by
 rcases List.mem_cons.mp h with e | e
 ·exact h1 e
 ·exact h2 (List.mem_singleton.mp e)
theorem Cg {a b:Nat} (h:a≠b):(a:Addr)≠(b:Addr):=h
theorem G8 {n l m:Nat} (h1:l<n) (h2:m<n):ZA (n+4:Nat) (n+2:Nat) (n+3:Nat) n (n+1:Nat) [n,l] [(n+1:Nat),m]:=
 ⟨List.mem_cons_self,List.mem_cons_self,C7 (a:=n+4) (b:=n) (c:=l) (by omega) (by omega),C7 (a:=n+4) (b:=n+1) (c:=m) (by omega) (by omega),C7 (a:=n+3) (b:=n) (c:=l) (by omega) (by omega),C7 (a:=n+3) (b:=n+1) (c:=m) (by omega) (by omega),
  C7 (a:=n) (b:=n+1) (c:=m) (by omega) (by omega),C7 (a:=n+1) (b:=n) (c:=l) (by omega) (by omega),Cg (a:=n+2) (b:=n+4) (by omega),Cg (a:=n+2) (b:=n+3) (by omega),Cg (a:=n+2) (b:=n) (by omega),Cg (a:=n+2) (b:=n+1) (by omega),Cg (a:=n+3) (b:=n+4) (by omega)⟩
end
def Lk (Sq1 Sq2:Addr->Hp->List V->Prop) (ta:TA):TI:=fun σ H R=>ta σ H fun vs H1=> ∃a b,vs=[.ref a, .ref b]/\(∃xs,Sq1 a H1 xs)/\(∃ys,Sq2 b H1 ys)/\R (E2 (Sq1 a) (Sq2 b)) H1
abbrev C8 (K:PySem.W.Frag):Addr->Hp->List V->Prop:=fun a H xs=>aN K H a xs
abbrev Ll (K:PySem.W.Frag):Addr->Hp->List V->Prop:=fun a H xs=>aJ K H a xs
section
variable {X:Cx} {elts:List Expr} {k:Nat} {pos':Pos} {a b:Expr} {ta:TA} {p pos:Pos}
theorem C9 {Sq1 Sq2:Addr->Hp->List V->Prop} (hg:Gl X "zip") (hm:X.mg "zip"=none) (ha:PA X [a,b] ta) (hs:starEach [a,b] X.env=[(false,eval a X.env),(false,eval b X.env)]) (nr:starEach [b] X.env=[(false,eval b X.env)])
  (hk: ∀(pins:List (Addr×Obj)) (s:Shared) (σ:St) (H:Hp),Inv X pins σ H s-> ∀u v xs ys,Sq1 u H xs->Sq2 v H ys->u<s.heap.objs.size/\v<s.heap.objs.size/\ ∃(c d:String) (P1 P2:Heap->Prop) (I1 I2:Nat->Heap->Prop),Vl c d P1 P2 u v/\P1 s.heap/\P2 s.heap/\
   ZS X.prog X.w X.K u s.heap.objs.size (Sq1 u) I1/\ZS X.prog X.w X.K v (s.heap.objs.size+1) (Sq2 v) I2/\(∀h':Heap,h'.get? s.heap.objs.size=some { cls:= .type c,data:= .fields #[.ref u, .int 0 0] }->I1 0 h')/\ ∀h':Heap,h'.get? (s.heap.objs.size+1)=some { cls:= .type d,data:= .fields #[.ref v, .int 0 0] }->I2 0 h'):
  PI X (.Tuple elts k pos') (.Call (.Name "zip" p) [a,b] [] pos) (Lk Sq1 Sq2 ta):=by
 intro pins s σ H R I h
 refine Call_ (dz I hg hm boot_zip (PyProof.Rows.callWith_type1 (bQ (ha pos pins s σ H _ I h) fun us s1 ⟨vs,H1,I1,r1,q1⟩=>?_) (by rw[hs,nr]) (by rw[nr];rfl)))
 obtain ⟨u,v,rfl,⟨xs,hx⟩,⟨ys,hy⟩,q⟩:=q1
 obtain ⟨u',v',rfl,ru,rv⟩:=vals2 r1
 cases ru
 cases rv
 obtain ⟨lu,lv,c,d,P1,P2,J1,J2,M,p1,p2,W1,W2,j1,j2⟩:=hk pins s1 σ H1 I1 u v xs ys hx hy
 refine M X.prog X.w X.A X.xe s1 _ p1 p2 fun h' z1 z2 z3 z4 z5 kk=>wpAny_pyIter_zip z1 ?_
 refine ⟨s1.heap.objs.size+4,[s1.heap.objs.size+4,s1.heap.objs.size+2,s1.heap.objs.size+3,s1.heap.objs.size,s1.heap.objs.size+1],_,_,H1,rfl,I1.kept (t':=s1.toks) kk,Af W1 W2 (G8 lu lv) (Nat.ne_of_lt lu) (Nat.ne_of_lt (Nat.lt_succ_of_lt lv)),⟨z1,z2,⟨_,_,z3⟩,j1 h' z4,j2 h' z5⟩,fun e he=>?_,q⟩
 have Lm:s1.heap.objs.size<=e:=by
  simp only[List.mem_cons,List.not_mem_nil,or_false]at he
  rcases he with g | g | g | g | g<;>rw[g]<;>omega
 exact I1.lS Lm (I1.aX.fresh Lm)
theorem Ag (K:PySem.W.Frag) (hK:X.K=K) (hg:Gl X "zip") (hm:X.mg "zip"=none) (ha:PA X [a,b] ta) (hs:starEach [a,b] X.env=[(false,eval a X.env),(false,eval b X.env)]:=by rfl) (nr:starEach [b] X.env=[(false,eval b X.env)]:=by rfl):PI X (.Tuple elts k pos') (.Call (.Name "zip" p) [a,b] [] pos) (Lk (Ll K) (C8 K) ta):=by
 subst hK
 refine C9 hg hm ha hs nr fun pins s σ H I u v xs ys hx hy=>?_
 obtain ⟨xi,_,px,_⟩:=I.list hx
 obtain ⟨yi,_,py,_⟩:=I.tuple hy
 obtain ⟨ox,ex,_⟩:=id px.isList
 obtain ⟨oy,ey,_⟩:=id py
 exact ⟨Heap.lt_size ex,Heap.lt_size ey,_,_,(fun h=>h.IsList u xi.toArray),(fun h=>h.IsTuple v yi.toArray),_,_,G7 (rA u v xi.toArray yi.toArray),px.isList,py,G0 u _,Ae v _,fun h' e=>⟨_,e,rfl,rfl⟩,fun h' e=>⟨_,e,rfl,rfl⟩⟩
end
theorem C_ {Sq1 Sq2:Hp->List V->Prop} {xs ys:List V} {g:TG} {tb:TS} {D:Ends} {σ:St} {H:Hp} (Pv:Nat->St->Hp->Prop) (hlen:xs.length=ys.length) (h0:Pv 0 σ H) (hl: ∀i σ H,i<=xs.length->Pv i σ H->Sq1 H xs/\Sq2 H ys)
  (hs: ∀i x y σ H T,xs[i]? =some x->ys[i]? =some y->Pv i σ H->H T=none->g (.ref T) σ (upd H T (.tup [x,y])) fun σ2 H2=>tb { D with nx:=Pv (i+1),ct:=Pv (i+1),bk:=D.nx } σ2 H2) (hd: ∀σ H,Pv xs.length σ H->D.nx σ H):
  ∃W:Nat->Nat->St->Hp->Prop,(∃m,W 0 m σ H)/\ ∀i m σ H,W i m σ H->
   ((E2 Sq1 Sq2).stop i H/\D.nx σ H)\/((E2 Sq1 Sq2).go i H/\ ∃N:St->Hp->Prop,(∀σ' H',N σ' H'-> ∃m',m'<m/\W (i+1) m' σ' H')/\ ∀x H',(E2 Sq1 Sq2).yZ i H x H'->g x σ H' fun σ2 H2=>tb { D with nx:=N,ct:=N,bk:=D.nx } σ2 H2):=by
 refine ⟨fun i m σ H=>m=xs.length - i/\i<=xs.length/\Pv i σ H,⟨xs.length,by simp,Nat.zero_le _,h0⟩,?_⟩
 rintro i m σ H ⟨rfl,hi,p⟩
 obtain ⟨q1,q2⟩:=hl i σ H hi p
 by_cases eK:i<xs.length
 ·have G9:i<ys.length:=by omega
  refine .inr ⟨⟨xs,ys,xs[i],ys[i],q1,q2,by simp[eK],by simp[G9]⟩,Pv (i+1),fun σ' H' p'=>⟨xs.length - (i+1),by omega,rfl,eK,p'⟩,fun x H' y=>?_⟩
  obtain ⟨T,u,v,hu,hv,rfl,hn,rfl⟩:=y
  exact hs i u v σ _ T (hu xs q1) (hv ys q2) p hn
 ·have e:i=xs.length:=by omega
  subst e
  exact .inl ⟨⟨xs,q1,⟨ys,q2⟩,rfl⟩,hd σ H p⟩
theorem Ah {Sq1 Sq2:Hp->List V->Prop} {xs ys:List V} {σc:St} {g:TG} {tc:TT} {te:TE} {Q:VK} {H1:Hp} (Pv:Nat->List V->Hp->Prop) (hlen:xs.length=ys.length) (hn:xs.length<sizeLine) (hl: ∀i acc H,Pv i acc H->Sq1 H xs/\Sq2 H ys) (h0:Pv 0 [] H1)
  (hs: ∀(i:Nat) (x y:V) (acc:List V) (H:Hp) (T:Addr) (Nx:List V->Hp->Prop),xs[i]? =some x->ys[i]? =some y->acc.length<=i->Pv i acc H->H T=none->(∀bF H',bF.length<=i+1->Pv (i+1) bF H'->Nx bF H')->
   g (.ref T) σc (upd H T (.tup [x,y])) fun σ2 H2=>Wk σc σ2/\tc σ2 H2 fun b H3=>if b=true then te σ2 H3 fun v H4=>Nx (acc++[v]) H4 else Nx acc H3)
  (hd: ∀acc H D,acc.length<=xs.length->Pv xs.length acc H->H D=none->Q (.ref D) (upd H D (.lst acc))):jR (E2 Sq1 Sq2) σc g tc te Q H1:=by
 refine ⟨fun i m acc H=>m=xs.length - i/\i<=xs.length/\acc.length<=i/\Pv i acc H,⟨xs.length,by simp,Nat.zero_le _,Nat.le_refl _,h0⟩,?_⟩
 rintro i m acc H ⟨rfl,hi,jI,p⟩
 obtain ⟨q1,q2⟩:=hl i acc H p
 refine ⟨by omega,?_⟩
 by_cases eK:i<xs.length
 ·have G9:i<ys.length:=by omega
  refine .inr ⟨⟨xs,ys,xs[i],ys[i],q1,q2,by simp[eK],by simp[G9]⟩,fun x H' y=>?_⟩
  obtain ⟨T,u,v,hu,hv,rfl,hT,rfl⟩:=y
  exact hs i u v acc _ T (fun bF H'=> ∃m',m'<xs.length - i/\(m'=xs.length - (i+1)/\i+1<=xs.length/\bF.length<=i+1/\Pv (i+1) bF H')) (hu xs q1) (hv ys q2) jI p hT fun bF H' h1 h2=>⟨xs.length - (i+1),by omega,rfl,eK,h1,h2⟩
 ·have e:i=xs.length:=by omega
  subst e
  exact .inl ⟨⟨xs,q1,⟨ys,q2⟩,rfl⟩,fun D hD=>hd acc H D jI p hD⟩
end L2
namespace L2
open PySem PySem.Spec PyProof.Rows
section
variable {X:Cx}
end
end L2
namespace L2
open PySem PySem.Spec PyProof.Rows PySem.MeetsSeq PySem.SeqAt
theorem Ai (p:Addr) (av:Array Value) (c:Nat) (x:Value) (f:Value->Bool) (j:Nat) (hj:j<av.size) (yes:f av[j]=true) (k:Nat) (hz:av.size<=sizeLine):
  ∀i:Nat,j - i=k->i<=j->(∀m (hm:m<av.size),i<=m->m<j->f av[m]=false)->Meets (Builtin.«list.remove.loop» ⟨[.ref p,x,rawInt i],[]⟩)
   (fun A R s=>s.heap.get? p=some { cls:= .type "list",dict:=none,data:= .seq av c,slots:= #[] }/\(∀y,y∈av->EqAt A.in1 s y x (f y))/\R (.ok (.ret .none)) { s with heap:=s.heap.update p (Obj.mapSeq fun xs=>xs.eraseIdxIfInBounds j) }):=by
 induction k with
 | zero=>
  intro i hk Px no prog w A R s h
  obtain ⟨hp,g,d,tk,os⟩:=s;obtain ⟨q1,q2,h⟩:=h
  have e0:i=j:=by omega
  subst e0
  wp_walk using wpAny_loadPart' q1
  have e1:av[((i:Nat):Int).toNat]? =some av[i]:=by simp[hj]
  rw[e1]
  refine wpAny_bind (q2 _ (Array.getElem_mem hj) prog w _ _ ?_);rw[yes]
  have z2:(av.eraseIdxIfInBounds i).size<=sizeLine+1:=Nat.le_trans (size_erased av _) (Nat.le_succ_of_le hz)
  wp_walk using (wpAny_updateSeq q1 rfl (hz:=hz) (_hz':=z2)),wpAny_loadPart' q1
  simpa using h
 | succ k ih=>
  intro i hk Px no prog w A R s h
  obtain ⟨hp,g,d,tk,os⟩:=s;obtain ⟨q1,q2,h⟩:=h
  have lt:i<av.size:=by omega
  wp_walk using wpAny_loadPart' q1
  have e1:av[((i:Nat):Int).toNat]? =some av[i]:=by simp[lt]
  have e2:((i:Int)+1)=((i+1:Nat):Int):=by push_cast;rfl
  rw[e1]
  refine wpAny_bind (q2 _ (Array.getElem_mem lt) prog w _ _ ?_);rw[no i lt (Nat.le_refl _) (by omega)]
  wp_walk
  rw[e2]
  exact ⟨plainId_quiet plain_remove_loop _,codeAny_builtin entry_remove_loop (by rw[Around.under_plainId plain_remove_loop _];exact ih (i+1) (by omega) (by omega) (fun m hm h1 h2=>no m hm (by omega) h2) prog w A R _ ⟨q1,q2,h⟩)⟩
theorem Aj (p:Addr) (av:Array Value) (c:Nat) (x:Value) (f:Value->Bool) (j:Nat) (hj:j<av.size) (yes:f av[j]=true) (no: ∀m (hm:m<av.size),m<j->f av[m]=false) (hz:av.size<=sizeLine):
  Meets (Builtin.«list.remove» ⟨[.ref p,x],[]⟩) (fun A R s=>s.heap.get? p=some { cls:= .type "list",dict:=none,data:= .seq av c,slots:= #[] }/\(∀y,y∈av->EqAt A.in1 s y x (f y))/\R (.ok (.ret .none)) { s with heap:=s.heap.update p (Obj.mapSeq fun xs=>xs.eraseIdxIfInBounds j) }):=by
 intro prog w A R s h
 obtain ⟨hp,g,d,tk,os⟩:=s;obtain ⟨q1,q2,h⟩:=h
 wp_walk using wpAny_loadPart' q1
 exact ⟨plainId_quiet plain_remove_loop _,codeAny_builtin entry_remove_loop (by rw[Around.under_plainId plain_remove_loop _];exact Ai p av c x f j hj yes _ hz 0 rfl (Nat.zero_le _) (fun m hm _ h2=>no m hm h2) prog w A R _ ⟨q1,q2,h⟩)⟩
section
variable {X:Cx}
def Ln (K:PySem.W.Frag):V->List V->Hp->VK->Prop:=fun x vs H Q=> ∃(p:Addr) (xs:List V) (v:V) (ds:List PyData) (d:PyData) (j:Nat),x= .ref p/\vs=[v]/\H p=some (.lst xs)/\gj K H xs ds/\lF K H v d/\(PyData.canLayAll0 ds=true/\d.canLay0=true)/\d.depth<=60/\
 (∃e,ds[j]? =some e/\PyData.eqv e d=true)/\(∀m e,m<j->ds[m]? =some e->PyData.eqv e d=false)/\Q .bY (upd H p (.lst (xs.eraseIdx j)))
theorem Dc {k:Nat} (K:PySem.W.Frag) (h:X.K=K) (hr:dA k X.A):KG X "list.remove" (Ln K):=by
 subst h
 intro pins s σ H x vs v us Q I rx rv h
 obtain ⟨p,xs,y,ds,d,j,rfl,rfl,hH,rs,rd,⟨l1,l2⟩,dp,⟨ej,Vm,yj⟩,no,q⟩:=h
 cases rx
 obtain ⟨u,rfl,ru⟩:=rv.one
 obtain ⟨z,aL,n,r,hl,e⟩:=I.pR hH
 obtain ⟨as,ra⟩:=rd.reads I ru
 obtain ⟨bs,rb⟩:=rs.reads I r
 have hu:=hr.units
 have hm:min (PyData.depthAll ds) d.depth<=60:=Nat.le_trans (Nat.min_le_right _ _) dp
 have xC:aL.map (readOf s.heap)=ds:=readsAll_map ds aL bs l1 rb
 have tM: ∀m (hm:m<aL.toArray.size) (g:PyData),ds[m]? =some g->PyData.eqv (readOf s.heap aL.toArray[m]) d=PyData.eqv g d:=fun m hm g hg=>by
  rw[<-xC,List.getElem?_map]at hg
  have GO:m<aL.length:=by rw[List.size_toArray]at hm;exact hm
  rw[List.getElem?_eq_getElem GO]at hg
  have:=Option.some.inj hg
  rw[List.getElem_toArray,this]
 have hlen:ds.length=aL.length:=by rw[<-xC,List.length_map]
 have hj:j<aL.toArray.size:=by rw[List.size_toArray, <-hlen];exact (List.getElem?_eq_some_iff.mp Vm).1
 refine call_meets F.slot_list_remove ⟨_,e,rfl⟩ F.entry_list_remove (F.args_list_remove_2 _ _)
  (Aj p aL.toArray n u (fun w=>PyData.eqv (readOf s.heap w) d) j hj (by rw[tM j hj ej Vm];exact yj) (fun m hm h2=>?_) (by rw[List.size_toArray, <-hl];exact z)) ⟨e,?_,?_⟩
 ·have GO:m<ds.length:=by rw[hlen];rw[List.size_toArray]at hm;exact hm
  rw[tM m hm ds[m] (List.getElem?_eq_getElem GO)]
  exact no m _ h2 (List.getElem?_eq_getElem GO)
 ·exact items_eqAt (by simpa using rb) ra l1 l2 (by omega)
 ·refine ⟨.bY,_,I.zI (its':=aL.eraseIdx j) hH e ?_ (r.eraseIdx j) ?_,rfl,q⟩
  ·show aL.toArray.eraseIdxIfInBounds j=(aL.eraseIdx j).toArray
   rw[List.eraseIdxIfInBounds_toArray]
  ·have:=kr xs j
   omega
end
end L2
namespace L2
open PySem PySem.Spec PyProof.Rows
end L2
set_option maxHeartbeats 4000000
namespace XL
open PySem PySem.Spec PySem.Calls PyProof.Rows PySem.W Builtin Builtin.ObjectAttr
noncomputable abbrev VB:List Value:=[.type "ValueError", .type "Exception", .type "BaseException", .type "object"]
noncomputable def Lo (K:Frag) (C:Addr):Bool:=match K.lookup C with
 | some ⟨.type "type",_, .cls cd,sl⟩=>(match cd.mro,sl.toList with
  | .ref C'::bm,[_,_,_,_,some (.builtin n),_]=>C'==C&&n=="ValueError.__new__"&&!cd.hasDel&&cd.hasDict&&tailIn K VB bm&&nsOkIn K cd.ns
  | _,_=>false)
 | _=>false
structure rB (K:Frag) (h:Heap) (C:Addr):Prop where
 obj: ∃bm N nm q bs sn sub ab col dd k0 k1 k2 k3 k5 mN,h.get? C=some (excClassObj nm q C N bs bm true sn sub ab col dd k0 k1 k2 k3 k5 "ValueError.__new__")/\h.Ns N mN/\OwnTail h VB bm/\clsIn K C=some { name:=nm,bases:=bs,mro:= .ref C::bm,ns:=N,qualname:=q,hasDict:=true,slotNames:=sn,subclasses:=sub,abstract:=ab,collection:=col,hasDel:=false }
theorem dD {K:Frag} {h:Heap} {C:Addr} (X:K.In h) (e:Lo K C=true):rB K h C:=by
 unfold Lo at e
 split at e
 ·rename_i dd cd sl ho
  split at e
  ·rename_i C' bm k0 k1 k2 k3 n k5 hm hs
   simp only[Bool.and_eq_true,beq_iff_eq,Bool.not_eq_true']at e
   obtain ⟨⟨⟨⟨⟨rfl,rfl⟩,Lp⟩,Lq⟩,ht⟩,aX⟩:=e
   obtain ⟨nm,bs,mro,ns,qn,hd,sn,sub,ab,col,del⟩:=cd
   dsimp only at hm Lp aX Lq
   subst hm Lp Lq
   have Vn:sl= #[k0,k1,k2,k3,some (.builtin "ValueError.__new__"),k5]:=by
    obtain ⟨l⟩:=sl
    simp only at hs
    rw[hs]
   subst Vn
   exact ⟨bm,ns,nm,qn,bs,sn,sub,ab,col,dd,k0,k1,k2,k3,k5,_,X _ _ ho, .of_isNs (isNs_of_in X aX),tail_of_in X ht,by unfold clsIn;rw[ho]⟩
  ·cases e
 ·cases e
theorem gM {α:Type} {M:Model} {A:Around} {E:Value->Shared->Prop} {h:Heap} {g:Array GenState} {d:Drawn} {t:Nat} {os:OsState} {T:Sem α} {r:α} {Q:α->Shared->Prop} (x:Looks M h T r) (q:Q r ⟨h,g,d,t,os⟩):wpAny M A T Q E ⟨h,g,d,t,os⟩:=x A Q E _ (fun _ _ e=>e) q
noncomputable abbrev fZ (C t:Addr):Obj:={ cls:= .ref C,data:= .fields #[.ref t, .none, .none, .none, .bool false, .none] }
section
variable {prog:Program} {w:World} {A:Around} {E:Value->Shared->Prop} {h:Heap} {g:Array GenState} {d:Drawn} {t:Nat} {os:OsState} {K:Frag} {C:Addr}
theorem rC {rest:List Value} {init:Value} {Q:Fin->Shared->Prop} (X:rB K h C) (hi:Looks (model prog w) h (typeLookup (.ref C) "__init__") (some init)) (hb: ∀self,Looks (model prog w) h (bindSpecial init self) (init,[self])) (vW:rest.length<=sizeLine)
  (hq:wpAny (model prog w) A (call init (.ref (h.objs.size+1)::rest)) (fun v s'=>v= .none/\Q (.done (.ret (.ref (h.objs.size+1)))) s') E ⟨(h.push { cls:= .type "tuple",data:= .seq rest.toArray }).push (fZ C h.objs.size),g,d,t,os⟩):
  wpAny (model prog w) A (Builtin.«type.__call__» ⟨.ref C::rest,[]⟩) Q E ⟨h,g,d,t,os⟩:=by
 obtain ⟨bm,N,nm,q,bs,sn,sub,ab,col,dd,k0,k1,k2,k3,k5,mN,hC,hn,T,_⟩:=X.obj
 have F:=PySem.F.excBase_ValueError
 repeat (first | with_reducible refine wpAny_loadPart_at hC ?_ | with_reducible refine wpAny_madeBy_exc hC ?_ | wp_step)
 refine codeAny_call_builtin_code (Code.quiet_builtin _ F.quiet) (wpAny_check_new_subT F T hC ?_)
 refine codeAny_exc_new_subT F T hC ?_ vW
 show wpAny _ _ _ _ _ _
 have kp: ∀b o,h.get? b=some o->((h.push { cls:= .type "tuple",data:= .seq rest.toArray }).push (fZ C h.objs.size)).get? b=some o:=fun b o e=>Heap.get?_push_of_some _ (Heap.get?_push_of_some _ e)
 have XN:=kp _ _ hC
 have G_:((h.push { cls:= .type "tuple",data:= .seq rest.toArray }).push (fZ C h.objs.size)).get? (h.objs.size+1)=some (fZ C h.objs.size):=by heap_get
 have Qv:(Value.ref C::bm).contains (.ref C)=true:=by simp
 have i1:=hi.keeps kp
 have b1:=(hb (.ref (h.objs.size+1))).keeps kp
 unfold isInstance
 repeat (first | with_reducible refine wpAny_loadPart_at G_ ?_ | (with_reducible refine wpAny_isSubtype_exc XN ?_;rw[Qv]) | wp_step)
 show wpAny _ _ (typeLookup (.ref C) _) _ _ _
 refine i1.here ?_
 refine wpAny_holding (wpAny_bind (b1.here ?_))
 refine wpAny_bind (wpAny_mono hq (fun v s' z=>?_) fun _ _ e=>e)
 obtain ⟨rfl,z⟩:=z
 exact wpAny_pure (wpAny_pure z)
theorem x_call {rest:List Value} {init:Value} {Q:Value->Shared->Prop} (X:rB K h C) (hi:Looks (model prog w) h (typeLookup (.ref C) "__init__") (some init)) (hb: ∀self,Looks (model prog w) h (bindSpecial init self) (init,[self])) (vW:rest.length<=sizeLine)
  (hq:wpAny (model prog w) (A.under (.builtin "type.__call__" ⟨.ref C::rest,[]⟩)) (call init (.ref (h.objs.size+1)::rest)) (fun v s'=>v= .none/\Q (.ref (h.objs.size+1)) s') E ⟨(h.push { cls:= .type "tuple",data:= .seq rest.toArray }).push (fZ C h.objs.size),g,d,t,os⟩):
  wpAny (model prog w) A (call (.ref C) rest) Q E ⟨h,g,d,t,os⟩:=by
 obtain ⟨bm,N,nm,q,bs,sn,sub,ab,col,dd,k0,k1,k2,k3,k5,mN,hC,hn,T,_⟩:=X.obj
 have f1:=tc_lookup
 have f2:=tc_bind (.ref C)
 have hT:(⟨h,g,d,t,os⟩:Shared).TypeIs (.ref C) "type":=⟨_,hC,rfl⟩
 refine wpAny_call (codeAny_of_tree ?_)
 show wpAny _ _ (callAny (.ref C) _) _ _ _
 repeat (any_goals (first | assumption | with_reducible refine wpAny_loadPart_at hC ?_ | wp_step))
 refine ⟨rfl,?_⟩
 exact codeAny_call_builtin_at (Code.quiet_builtin _ (by decide+kernel)) entry_typeCall (wpAny_check_type_call_sub hC (rC X hi hb vW hq))
theorem Ha {rest:List Value} {e:Addr} {oe:Obj} {vs:Array Value} {Q:Value->Shared->Prop} (X:rB K h C) (he:h.get? e=some oe) (hc:oe.cls= .ref C) (hd:oe.data= .fields vs) {t0:Addr} (h0:vs[0]? =some (.ref t0)) (vW:rest.length<=sizeLine)
  (hq:Q .none ⟨(h.push { cls:= .type "tuple",data:= .seq rest.toArray }).update e (Obj.mapFields (·.setIfInBounds 0 (.ref h.objs.size))),g,d,t,os⟩):
  wpAny (model prog w) A (call (.builtin "ValueError.__init__") (.ref e::rest)) Q E ⟨h,g,d,t,os⟩:=by
 obtain ⟨bm,N,nm,q,bs,sn,sub,ab,col,dd,k0,k1,k2,k3,k5,mN,hC,hn,T,_⟩:=X.obj
 have F:=PySem.F.excBase_ValueError
 refine wpAny_call (codeAny_call_builtin F.init.plain F.initEntry (wpAny_check_init_subT F T hC he hc ?_))
 wp_walk
 rw[hd]
 refine wpAny_pure ?_
 rw[h0]
 refine wpAny_pure (wpAny_bind ?_)
 have hsz:0<vs.size:=(Array.getElem?_eq_some_iff.mp h0).1
 refine wpAny_setField (Heap.get?_push_of_some _ he) hd hsz ?_
 wp_walk
 exact hq
theorem rD {bm:List Value} (T:OwnTail h VB bm) (self:Value):refuseLoop self "__setattr__" bm=pure ():=by
 induction T with
 | base=>exact PySem.F.store_ValueError.passes self
 | own _ _ _ _ ih=>rw[refuseLoop_ref];exact ih
variable {x:Addr} {mA:Str->Option Value} {name:Str} {v:Value}
theorem Hb {o:Obj} {Q:Option Addr->Shared->Prop} (X:rB K h C) (hx:h.get? x=some o) (hc:o.cls= .ref C) (Lr: ∀c,o.data≠ .cls c)
  (h1: ∀dx,o.dict=some dx->Q (some dx) ⟨h,g,d,t,os⟩) (h2:o.dict=none->Q (some h.objs.size) ⟨(h.push emptyDict).update x fun o=>{ o with dict:=some h.objs.size },g,d,t,os⟩):
  wpAny (model prog w) A (instanceDict x true) Q E ⟨h,g,d,t,os⟩:=by
 obtain ⟨bm,N,nm,q,bs,sn,sub,ab,col,dd,k0,k1,k2,k3,k5,mN,hC,_⟩:=X.obj
 unfold instanceDict
 repeat (first | (with_reducible refine wpAny_loadPart_at hx ?_;rw[hc]) | with_reducible refine wpAny_loadPart_at hC ?_ | wp_step)
 cases e:o.dict with
 | some dx=>exact wpAny_pure (h1 dx e)
 | none=>
  have lay:wpAny (model prog w) A (do
    let d <-alloc { cls:= .type "dict",data:= .dict #[] }
    update x fun o=>{ o with dict:=some d }
    dictMade (.ref C) x d) Q E ⟨h,g,d,t,os⟩:=wpAny_bind (wpAny_alloc (wpAny_bind (wpAny_update (Heap.get?_push_of_some _ hx) (wpAny_pure (h2 e)))))
  obtain ⟨oc,od,De,vD⟩:=o
  cases De<;>first | exact lay | exact absurd rfl (Lr _)
theorem E3 {dx:Addr} {ns:List Str} {tk:Tok} {Q:Fin->Shared->Prop} (hn:h.Ns1 dx mA) (hw:Within mA ns) (hz:ns.length<sizeLine)
  (hq: ∀h',h'.Ns1 dx (fun y=>if y=name then some v else mA y)->Heap.SameBut dx h h'->Q (.done (.ret .none)) ⟨h',g,d,t+1,os⟩):wpAny (model prog w) A (storeInDict dx (.str name tk) name v) Q E ⟨h,g,d,t,os⟩:=by
 unfold storeInDict
 refine wpAny_bind (wpAny_pure (wpAny_bind (wpAny_nsSet1 hn fun h' n1 n2=>?_)))
 obtain ⟨oD,esD,epD,a1,a2,a3⟩:=n1.count (Within.cons name v hw)
 refine wpAny_bind (wpAny_lookBehind a1 (by rw[a2];exact pastItsLine_dict (Nat.le_trans a3 (by rw[List.length_cons];omega))) ?_)
 exact wpAny_pure (hq h' n1 n2)
theorem Df {tk:Tok} {Q:Fin->Shared->Prop} {ns:List Str} (KI:K.In h) (X:rB K h C) (hn:findIn K (.ref C) name=some none) (I:h.Inst x C mA)
  (hq: ∀h' vT,h'.Inst x C (fun y=>if y=name then some v else mA y)->
   (∀b o,b≠x->(∀o₀ dx,h.get? x=some o₀->o₀.dict=some dx->b≠dx)->h.get? b=some o->h'.get? b=some o)->
   (∀o₀,h.get? x=some o₀-> ∃o₁,h'.get? x=some o₁/\o₁.cls=o₀.cls/\o₁.data=o₀.data/\o₁.slots=o₀.slots/\(∀dx,o₀.dict=some dx->o₁.dict=some dx)/\(o₀.dict=none->o₁.dict=some h.objs.size))->Q (.done (.ret .none)) ⟨h',g,d,vT,os⟩) (hw:Within mA ns) (hsz:ns.length<sizeLine):
  wpAny (model prog w) A (Builtin.«object.__setattr__» ⟨[.ref x, .str name tk,v],[]⟩) Q E ⟨h,g,d,t,os⟩:=by
 obtain ⟨bm,N,nm,q,bs,sn,sub,ab,col,dd,k0,k1,k2,k3,k5,mN,hC,_,T,_⟩:=X.obj
 obtain ⟨o,hx,hc,Lr,hd⟩:=I
 have t1:Looks (model prog w) h (typeOf (.ref x)) (.ref C):=hc▸(Looks.ld hx).andThen .now
 have same: ∀o₀,h.get? x=some o₀->o=o₀:=fun o₀ e=>Option.some.inj (hx.symm.trans e)
 rw[osa_eq]
 refine wpAny_bind ?_
 rw[refuse_eq]
 refine wpAny_bind (gM t1 (wpAny_bind (wpAny_mroOf_exc hC ?_)))
 rw[refuseLoop_ref,rD T]
 refine wpAny_pure (wpAny_bind (gM t1 (wpAny_bind (gM (looks_findIn KI hn) (wpAny_bind (wpAny_pure ?_))))))
 show wpAny _ _ (storeInOwnDict (.ref x) (.ref C) (.str name tk) name v false) _ _ _
 unfold storeInOwnDict
 refine wpAny_bind (wpAny_pure (wpAny_bind (Hb X hx hc Lr (fun dx e=>?_) (fun e=>?_))))
 ·rcases hd with ⟨z,_⟩ | ⟨XO,e',ne,n1⟩
  ·rw[z]at e;cases e
  ·rw[e']at e
   cases e
   refine E3 n1 hw hsz fun h' n2 sb=>hq h' _ ⟨o,(sb.2 x ne.symm).trans hx,hc,Lr, .inr ⟨dx,e',ne,n2⟩⟩ (fun b ob _ away hb=>(sb.2 b (away o dx hx e')).trans hb) fun o₀ e0=>?_
   cases same o₀ e0
   exact ⟨o,(sb.2 x ne.symm).trans hx,rfl,rfl,rfl,fun _ y=>y,fun y=>by (rw[e']at y;cases y)⟩
 ·have empty: ∀n,mA n=none:=by
   rcases hd with ⟨_,z⟩ | ⟨XO,e',_⟩
   ·exact z
   ·rw[e']at e;cases e
  have lt:x≠h.objs.size:=Nat.ne_of_lt (Heap.lt_size hx)
  have live:Obj.isFreed { o with dict:=some h.objs.size }=false:=by
   have:=(Heap.get?_some_iff.mp hx).2
   obtain ⟨oc,od,De,vD⟩:=o
   cases De<;>first | rfl | exact this
  have gx:=Heap.get?_update_self (fun o:Obj=>{ o with dict:=some h.objs.size }) (Heap.get?_push_of_some emptyDict hx) live
  have gd:((h.push emptyDict).update x fun o=>{ o with dict:=some h.objs.size }).get? h.objs.size=some emptyDict:=(Heap.get?_update_ne _ _ _ _ (Ne.symm lt)).trans (Heap.get?_push_at rfl rfl)
  have nd:((h.push emptyDict).update x fun o=>{ o with dict:=some h.objs.size }).Ns1 h.objs.size fun _=>none:=Heap.Ns1.of_empty ⟨_, #[],_,gd,rfl,fun y hy=>absurd hy (by simp),fun _=>rfl⟩
  have old: ∀b ob,b≠x->h.get? b=some ob->((h.push emptyDict).update x fun o=>{ o with dict:=some h.objs.size }).get? b=some ob:=fun b ob hb e=>(Heap.get?_update_ne _ _ _ _ hb).trans (Heap.get?_push_of_some _ e)
  refine E3 (ns:=[]) nd Within.nil (by decide) fun h' n2 sb=>hq h' _ ⟨_,(sb.2 x lt).trans gx,hc,Lr, .inr ⟨h.objs.size,rfl,Ne.symm lt,?_⟩⟩ (fun b ob hb _ eb=>(sb.2 b (Nat.ne_of_lt (Heap.lt_size eb))).trans (old b ob hb eb)) fun o₀ e0=>?_
  ·obtain ⟨o',es,ep,y1,y2,y3,y4,y5⟩:=n2
   refine ⟨o',es,ep,y1,y2,y3,y4,fun y=>(y5 y).trans ?_⟩
   show (if y=name then some v else none)=if y=name then some v else mA y
   by_cases z:y=name
   ·rw[if_pos z,if_pos z]
   ·rw[if_neg z,if_neg z,empty]
  ·cases same o₀ e0
   exact ⟨_,(sb.2 x lt).trans gx,rfl,rfl,rfl,fun dx y=>by (rw[e]at y;cases y),fun _=>rfl⟩
theorem E4 {Q:Unit->Shared->Prop} {ns:List Str} (KI:K.In h) (X:rB K h C) (hs:findIn K (.ref C) "__setattr__"=some (some (.builtin "object.__setattr__"))) (hn:findIn K (.ref C) name=some none) (I:h.Inst x C mA)
  (hq: ∀h' vT,h'.Inst x C (fun y=>if y=name then some v else mA y)->
   (∀b o,b≠x->(∀o₀ dx,h.get? x=some o₀->o₀.dict=some dx->b≠dx)->h.get? b=some o->h'.get? b=some o)->
   (∀o₀,h.get? x=some o₀-> ∃o₁,h'.get? x=some o₁/\o₁.cls=o₀.cls/\o₁.data=o₀.data/\o₁.slots=o₀.slots/\(∀dx,o₀.dict=some dx->o₁.dict=some dx)/\(o₀.dict=none->o₁.dict=some h.objs.size))->Q () ⟨h',g,d,vT,os⟩) (hw:Within mA ns) (hsz:ns.length<sizeLine):
  wpAny (model prog w) A (setAttr (.ref x) name v) Q E ⟨h,g,d,t,os⟩:=by
 obtain ⟨bm,N,nm,q,bs,sn,sub,ab,col,dd,k0,k1,k2,k3,k5,mN,hC,_,T,_⟩:=X.obj
 obtain ⟨o,hx,hc,_⟩:=id I
 have SF:=PySem.F.store_ValueError
 have f3:=SF.slot.bind (.ref x)
 have L:=looks_findIn (M:=model prog w) KI hs
 have XQ:(Value.ref C::bm).contains (.type "object")=true:=by rw[List.contains_cons,T.hasType (X:="object") (b:=true) (by decide+kernel),Bool.or_true]
 unfold setAttr callSpecial? specialOf
 repeat (any_goals (first | assumption | (with_reducible refine wpAny_loadPart_at hx ?_;rw[hc]) | with_reducible refine gM L ?_ | wp_step))
 refine codeAny_call_builtin SF.slot.plain SF.entry ?_
 refine @check_slot (model prog w) _ _ _ "object.__setattr__" "object" "__setattr__" (.ref x) _ [] _ SF.kind SF.split ?_ (SF.args _ _ _) (Df KI X hn I (fun h' vT I' hk Ls=>?_) hw hsz)
 ·have t1:Looks (model prog w) h (typeOf (.ref x)) (.ref C):=hc▸(Looks.ld hx).andThen .now
  refine t1.andThen ?_
  intro A Q E s k q
  obtain ⟨hh,gg,Vo,tt,Vp⟩:=s
  refine wpAny_isSubtype_exc (k _ _ hC) ?_
  rw[XQ];exact q
 repeat (any_goals (first | assumption | wp_step))
 exact hq h' vT I' hk Ls
theorem Lu {expr:Bool} {Q:Value->Shared->Prop} (KI:K.In h) (X:rB K h C) (XR:findIn K (.ref C) "__getattribute__"=some (some (.builtin "BaseException.__getattribute__"))) (hk:findIn K (.ref C) "__getattr__"=some none)
  (hn:findIn K (.ref C) name=some none) {ox od:Obj} (I:InstAt h x ox C (some od)) (hl:lookIn name od=some (some v)) (hv:handedIn v=true) (hq:Q v ⟨h,g,d,t+1,os⟩):
  wpAny (model prog w) A (getAttr (.ref x) name expr) Q E ⟨h,g,d,t,os⟩:=by
 obtain ⟨bm,N,nm,q,bs,sn,sub,ab,col,dd,k0,k1,k2,k3,k5,mN,hC,_,T,nM⟩:=X.obj
 have hx:=I.at_
 have hc:=I.cls
 have FB:=PySem.F.attrBase_ValueError
 have f3:=FB.ga.bind (.ref x)
 have Ak:(expr&&onTheHeap (Value.builtin "BaseException.__getattribute__"))=false:=by cases expr<;>rfl
 have xu:(Value.builtin "BaseException.__getattribute__"==Value.builtin "object.__getattribute__")=false:=by decide+kernel
 have vX:(onTheHeap (Value.ref C)&&Value.builtin "BaseException.__getattribute__"==Value.builtin "object.__getattribute__")=false:=by rw[xu];rfl
 have L1:=looks_findIn (M:=model prog w) KI XR
 have L2:=looks_findIn (M:=model prog w) KI hk
 have Hc:(Value.ref C::bm).contains (.type "BaseException")=true:=by rw[List.contains_cons,T.hasType (X:="BaseException") (b:=true) (by decide+kernel),Bool.or_true]
 have hf:findObj K C (some od) name=some (.value v):=by
  unfold findObj
  rw[nM,hn]
  show (Option.bind (PySem.W.ownOf _ (some od) name) _)=_
  unfold PySem.W.ownOf
  rw[if_pos rfl]
  show (Option.bind (lookIn name od) _)=_
  rw[hl]
  rfl
 have t1:Looks (model prog w) h (typeOf (.ref x)) (.ref C):=hc▸(Looks.ld hx).andThen .now
 have LF:=looks_find (M:=model prog w) KI I hf
 unfold getAttr getAttrBy
 repeat (any_goals (first | assumption | (with_reducible refine wpAny_loadPart_at hx ?_;rw[hc]) | with_reducible refine gM L1 ?_ | with_reducible refine gM L2 ?_ | wp_step))
 refine codeAny_call_builtin FB.ga.plain PySem.F.entry_bexc_ga ?_
 refine @check_slot (model prog w) _ _ _ "BaseException.__getattribute__" "BaseException" "__getattribute__" (.ref x) _ [] _ (by decide+kernel) (by decide+kernel) ?_ (PySem.F.args_bexc_ga _ _) ?_
 ·refine t1.andThen ?_
  intro A Q E s k q
  obtain ⟨hh,gg,Vo,tt,Vp⟩:=s
  refine wpAny_isSubtype_exc (k _ _ hC) ?_
  rw[Hc];exact q
 unfold Builtin.«object.__getattribute__»
 repeat (first | with_reducible refine gM t1 ?_ | with_reducible refine gM LF ?_ | wp_step)
 show wpAny _ _ (handedOut v) _ _ _
 rw[handedOut_of hv]
 exact wpAny_pure hq
end
end XL
set_option maxHeartbeats 4000000
namespace XL
open PySem PySem.Spec PySem.Calls PyProof.Rows PySem.W Builtin Builtin.ObjectAttr
structure XC (K:Frag) (C:Addr):Prop where
 is:Lo K C=true
 ga:findIn K (.ref C) "__getattribute__"=some (some (.builtin "BaseException.__getattribute__"))
 gh:findIn K (.ref C) "__getattr__"=some none
 sa:findIn K (.ref C) "__setattr__"=some (some (.builtin "object.__setattr__"))
 cl:findIn K (.ref C) "__class__"=some (some (.builtin "object.__class__"))
 cg:specialIn K (.builtin "object.__class__") "__get__"=some (some (.builtin "getset_descriptor.__get__"))
 ct:takesIn K (.builtin "object.__class__")=some true
 ob:mroIn K C (.type "object")=some true
 kp:keepIn K (.ref C)=true
def Hd (e C:Addr) (h:Heap):Prop:= ∃ox,h.get? e=some ox/\ox.cls= .ref C/\notCls ox=true/\(∀d,ox.dict=some d-> ∃od,h.get? d=some od)
theorem Hd.inst {e C:Addr} {h:Heap} (p:Hd e C h): ∃ox od,InstAt h e ox C od:=by
 obtain ⟨ox,h1,h2,h3,h4⟩:=p
 cases hd:ox.dict with
 | none=>exact ⟨ox,none,h1,h2,h3,by rw[hd];trivial⟩
 | some d=>
  obtain ⟨od,h5⟩:=h4 d hd
  exact ⟨ox,some od,h1,h2,h3,by rw[hd];exact h5⟩
section
variable {prog:Program} {w:World} {A:Around} {E:Value->Shared->Prop} {h:Heap} {g:Array GenState} {d:Drawn} {t:Nat} {os:OsState} {K:Frag} {C x:Addr}
theorem Dg {Q:Option Value->Shared->Prop} (KI:K.In h) (c:XC K C) (p:Hd x C h) (hq:Q (some (.ref C)) ⟨h,g,d,t+1,os⟩):wpAny (model prog w) A (getAttr? (.ref x) "__class__") Q E ⟨h,g,d,t,os⟩:=by
 obtain ⟨ox,od,I⟩:=p.inst
 obtain ⟨bm,N,nm,q,bs,sn,sub,ab,col,dd,k0,k1,k2,k3,k5,mN,hC,_,T,nM⟩:=(dD KI c.is).obj
 have hx:=I.at_
 have hc:=I.cls
 have FB:=PySem.F.attrBase_ValueError
 have f3:=FB.ga.bind (.ref x)
 have Ak:(false&&onTheHeap (Value.builtin "BaseException.__getattribute__"))=false:=rfl
 have xu:(Value.builtin "BaseException.__getattribute__"==Value.builtin "object.__getattribute__")=false:=by decide+kernel
 have vX:(onTheHeap (Value.ref C)&&Value.builtin "BaseException.__getattribute__"==Value.builtin "object.__getattribute__")=false:=by rw[xu];rfl
 have L1:=looks_findIn (M:=model prog w) KI c.ga
 have L2:=looks_findIn (M:=model prog w) KI c.gh
 have Hc:(Value.ref C::bm).contains (.type "BaseException")=true:=by rw[List.contains_cons,T.hasType (X:="BaseException") (b:=true) (by decide+kernel),Bool.or_true]
 have hf:findObj K C od "__class__"=some (.bind (.builtin "getset_descriptor.__get__") (.builtin "object.__class__")):=by
  unfold findObj
  rw[nM,Option.bind_some,c.cl,Option.bind_some]
  simp[c.cg,c.ct]
 have t1:Looks (model prog w) h (typeOf (.ref x)) (.ref C):=hc▸(Looks.ld hx).andThen .now
 have LF:=looks_find (M:=model prog w) KI I hf
 unfold getAttr? getAttrBy? getAttrBy
 repeat (any_goals (first | assumption | (with_reducible refine wpAny_loadPart_at hx ?_;rw[hc]) | with_reducible refine gM L1 ?_ | with_reducible refine gM L2 ?_ | wp_step))
 refine codeAny_call_builtin FB.ga.plain PySem.F.entry_bexc_ga ?_
 refine @check_slot (model prog w) _ _ _ "BaseException.__getattribute__" "BaseException" "__getattribute__" (.ref x) _ [] _ (by decide+kernel) (by decide+kernel) ?_ (PySem.F.args_bexc_ga _ _) ?_
 ·refine t1.andThen ?_
  intro A Q E s k q
  obtain ⟨hh,gg,Vo,tt,Vp⟩:=s
  refine wpAny_isSubtype_exc (k _ _ hC) ?_
  rw[Hc];exact q
 unfold Builtin.«object.__getattribute__»
 repeat (first | with_reducible refine gM t1 ?_ | with_reducible refine gM LF ?_ | wp_step)
 refine class_get (s:=⟨h,g,d,t+1,os⟩) KI I c.ob (wpAny_pure ?_)
 exact handed_on rfl (wpAny_pure hq)
theorem rE (c:XC K C):KitX K (.ref x) (.ref C) (Hd x C) where
 ty:=fun _ _ _ p=>by
  obtain ⟨ox,od,I⟩:=p.inst
  exact I.type
 it:=fun _ h X _=>by
  obtain ⟨bm,N,nm,q,bs,sn,sub,ab,col,dd,k0,k1,k2,k3,k5,mN,hC,_⟩:=(dD X c.is).obj
  intro A' Q' E' s' k q
  unfold isType loadHead
  exact wpAny_bind (wpAny_loadPart (k _ _ hC) (wpAny_pure q))
 ne:=fun h tp dd aL n sl X NU=>by
  obtain ⟨bm,N,nm,q,bs,sn,sub,ab,col,dd,k0,k1,k2,k3,k5,mN,hC,_⟩:=(dD X c.is).obj
  refine Bool.eq_false_iff.mpr fun q=>?_
  have e:C=tp:=Value.ref.inj (beq_iff_eq.mp q)
  subst e
  have z:=congrArg (Option.map Obj.cls) (hC.symm.trans NU)
  have z2:Value.type "type"=Value.type "tuple":=Option.some.inj z
  exact absurd (Value.type.inj z2) (by decide)
 ca:=fun {_ _ _ _ _ s} X p k=>by
  obtain ⟨h,g,d,t,os⟩:=s
  exact Dg X c p k
theorem xD {M:Addr} {Q:Bool->Shared->Prop} (KI:K.In h) (c:XC K C) (cm:XC K M) (hs:mroIn K C (.ref M)=some true) (p:Hd x C h) (hq:Q true ⟨h,g,d,t,os⟩):
  wpAny (model prog w) A (excMatches (.ref x) (.ref M)) Q E ⟨h,g,d,t,os⟩:=by
 obtain ⟨bm,N,nm,q,bs,sn,sub,ab,col,dd,k0,k1,k2,k3,k5,mN,hC,_,T,nM⟩:=(dD KI c.is).obj
 obtain ⟨XS,N',nm',q',bs',sn',XT,ab',XU,E1,k0',NY,k2',k3',k5',mN',hM,_,T',XW⟩:=(dD KI cm.is).obj
 obtain ⟨ox,he,tW,_⟩:=p
 have Hc:(Value.ref M::XS).contains (.type "BaseException")=true:=by rw[List.contains_cons,T'.hasType (X:="BaseException") (b:=true) (by decide+kernel),Bool.or_true]
 have Qv:(Value.ref C::bm).contains (.ref M)=true:=by
  unfold mroIn at hs
  rw[nM,Option.bind_some]at hs
  have:(if (Value.ref C::bm).isEmpty=true then none else some ((Value.ref C::bm).contains (.ref M)))=some true:=hs
  rw[if_neg (by simp)]at this
  exact Option.some.inj this
 have f:=tc_notTuple
 unfold excMatches
 repeat (first | (with_reducible refine wpAny_loadPart_at he ?_;rw[tW]) | with_reducible refine wpAny_loadPart_at hM ?_ | (with_reducible refine wpAny_isSubtype_exc hM ?_;rw[Hc]) | (with_reducible refine wpAny_isSubtype_exc hC ?_;rw[Qv]) | wp_step)
 exact hq
theorem x_raise {env:Env} {s:Shared} {ex:Sem Value} {Q:Flow->Shared->Prop} (hh:A.handled=none)
  (hx:wpAny (model prog w) A ex (fun v s₁=> ∃e C oe vs,v= .ref e/\K.In s₁.heap/\XC K C/\s₁.heap.get? e=some oe/\oe.cls= .ref C/\oe.data= .fields vs/\vs[1]? =some .none/\E (.ref e) s₁) E s):
  wpAny (model prog w) A (raiseStmt env (some ex) none) Q E s:=by
 unfold raiseStmt
 refine wpAny_bind (wpAny_mono hx (fun v s₁ h₁=>?_) fun _ _ y=>y)
 obtain ⟨e,C,oe,vs,rfl,KI,c,he,tW,XX,XY,hE⟩:=h₁
 obtain ⟨hp,g,d,tk,os⟩:=s₁
 obtain ⟨bm,N,nm,q,bs,sn,sub,ab,col,dd,k0,k1,k2,k3,k5,mN,hC,_,T,nM⟩:=(dD KI c.is).obj
 have Hc:(Value.ref C::bm).contains (.type "BaseException")=true:=by rw[List.contains_cons,T.hasType (X:="BaseException") (b:=true) (by decide+kernel),Bool.or_true]
 obtain ⟨oc,od,De,vD⟩:=oe
 cases (show oc= .ref C from tW)
 cases (show De= .fields vs from XX)
 repeat (first | with_reducible refine wpAny_loadPart_at he ?_ | with_reducible refine wpAny_loadPart_at hC ?_ | with_reducible refine wpAny_field he rfl XY ?_ | (with_reducible refine wpAny_isSubtype_exc hC ?_;rw[Hc]) | wp_step)
 exact wpAny_raiseNew_none hh hE
end
end XL
set_option maxHeartbeats 4000000
namespace XL
open PySem PySem.Spec PySem.Calls PyProof.Rows PySem.W
def XZ (h:Heap) (e C:Addr) (dO:Option Addr):Prop:= ∃oe vs,h.get? e=some oe/\oe.cls= .ref C/\oe.dict=dO/\oe.data= .fields vs/\vs[1]? =some .none
def Tb (h:Heap) (e C:Addr) (dO:Option Addr) (T:Addr) (fl:Value):Prop:=
 ∃oe vs oT ts,h.get? e=some oe/\oe.cls= .ref C/\oe.dict=dO/\oe.data= .fields vs/\vs[1]? =some (.ref T)/\T≠e/\h.get? T=some oT/\oT.data= .fields ts/\ts[3]? =some fl
structure Kept (S ex:List Addr) (h h':Heap):Prop where
 keep: ∀b o,b∉ex->b∉S->h.get? b=some o->h'.get? b=some o
 slot: ∀b o,b∉ex->b∈S->h.get? b=some o-> ∃sl,h'.get? b=some { o with slots:=sl }
theorem Kept.trans {S ex ey:List Addr} {h h1 h2:Heap} (a:Kept S ex h h1) (b:Kept S ey h1 h2):Kept S (ex++ey) h h2:=by
 refine ⟨fun c o hx hs e=>?_,fun c o hx hs e=>?_⟩
 ·rw[List.mem_append,not_or]at hx
  exact b.keep c o hx.2 hs (a.keep c o hx.1 hs e)
 ·rw[List.mem_append,not_or]at hx
  obtain ⟨sl,e1⟩:=a.slot c o hx.1 hs e
  obtain ⟨uf,e2⟩:=b.slot c _ hx.2 hs e1
  exact ⟨uf,e2⟩
theorem Kept.frames {S ex:List Addr} {h h' base:Heap} (a:Kept S ex h h'): ∀{l:List Env},(∀b,b∈l.filterMap (·.frame)->b∈S/\b∉ex)->h.FunFrames base l->h'.FunFrames base l
 | [],_,_=>trivial
 | env::r,hS,⟨hk,⟨L,o,hf,hn,ho,hd⟩,hr⟩=>by
  have hL:=hS L (by rw[List.filterMap_cons,hf];exact List.mem_cons_self)
  obtain ⟨sl,e⟩:=a.slot L o hL.2 hL.1 ho
  exact ⟨hk,⟨L,_,hf,hn,e,hd⟩,Kept.frames a (fun b hb=>hS b (by rw[List.filterMap_cons,hf];exact List.mem_cons_of_mem _ hb)) hr⟩
section
variable {M:Model} {A:Around} {E:Value->Shared->Prop} {s:Shared} {base:Heap} {env:Env} {outer:List Env} {L e C:Addr} {dO:Option Addr}
theorem ik {S:List Env} {b:Addr} {o:Obj} {vs:Array Value} (hl:s.heap.FunFrames base S) (hb:s.heap.get? b=some o) (hd:o.data= .fields vs):b∉S.filterMap (·.frame):=fun z=>by
 obtain ⟨_,o',e',n⟩:=hl.mem z
 rw[hb]at e'
 cases e'
 exact n vs hd
theorem vY {oe:Obj} {vs:Array Value} {head:Value} {Dh:Bool} {Q:Unit->Shared->Prop} (lE:A.frames=some (env::outer)) (hl:s.heap.FunFrames base (env::outer)) (hf:env.frame=some L)
  (he:s.heap.get? e=some oe) (hc:oe.cls= .ref C) (Hf:oe.dict=dO) (hd:oe.data= .fields vs) (hz:1<vs.size)
  (hQ: ∀h' T,s.heap.get? T=none->Tb h' e C dO T (rawInt L)->Kept ((env::outer).filterMap (·.frame)) [e] s.heap h'->Q () { s with heap:=h' }):
  wpAny M A (do setField (.ref e) 1 (<-EntryCells.newEntry head (<-frameOf env) .none (rawInt L) .none (<-entryPlaceOf L Dh))) Q E s:=by
 have ap:=ik hl he hd
 refine wpAny_bind (wpAny_frameOf_fun lE hl hf fun h1 so=>?_)
 refine wpAny_bind (wpAny_entryPlaceOf fun pl gB=>?_)
 unfold EntryCells.newEntry newFields
 refine wpAny_bind (wpAny_newObj_type ?_ (gB.sizeOk5 _ _ _ _ _))
 have e1:h1.get? e=some oe:=(so.2.1 e ap).trans he
 generalize X0:([head, .ref L, .none,rawInt L, .none]++(if pl.isEmpty then List.replicate 6 Value.none else pl)).toArray=ts
 have t3:ts[3]? =some (rawInt L):=by rw[<-X0];simp
 have ne:h1.objs.size≠e:=Nat.ne_of_gt (Heap.lt_size e1)
 have d2:=Obj.data_mapFields hd (·.setIfInBounds 1 (Value.ref h1.objs.size))
 have e2:=Heap.get?_push_of_some { cls:= .type "traceback",dict:=none,data:= .fields ts } e1
 refine wpAny_setField e2 hd hz ?_
 have e3:=Heap.get?_update_self (Obj.mapFields (·.setIfInBounds 1 (Value.ref h1.objs.size))) e2 (Obj.isFreed_of_fields d2)
 have other: ∀b o,b≠e->h1.get? b=some o->((h1.push { cls:= .type "traceback",dict:=none,data:= .fields ts }).update e (Obj.mapFields (·.setIfInBounds 1 (Value.ref h1.objs.size)))).get? b=some o:=fun b o hb e0=>by
  rw[Heap.get?_update_other _ _ (Ne.symm hb)]
  exact Heap.get?_push_of_some _ e0
 refine hQ _ h1.objs.size ?_ ⟨_,_,_,ts,e3,(Obj.cls_mapFields _ _).trans hc,?_,d2,by simp[hz],ne,(Heap.get?_update_other _ _ (Ne.symm ne)).trans (Heap.get?_push_size h1 rfl),rfl,t3⟩ ⟨fun b o hb hS e0=>?_,fun b o hb hS e0=>?_⟩
 ·exact Heap.get?_none_of_le (Nat.le_of_eq so.1.symm)
 ·rw[<-Hf]
  obtain ⟨oc,od,De,vD⟩:=oe
  cases (show De=_ from hd)
  rfl
 ·exact other b o (fun z=>hb (by simp[z])) ((so.2.1 b hS).trans e0)
 ·obtain ⟨sl,e4⟩:=so.2.2 b o e0
  exact ⟨sl,other b _ (fun z=>hb (by simp[z])) e4⟩
theorem vZ {Q:Unit->Shared->Prop} (lE:A.frames=some (env::outer)) (hl:s.heap.FunFrames base (env::outer)) (hf:env.frame=some L) (hx:XZ s.heap e C dO)
  (hQ: ∀h' T,s.heap.get? T=none->Tb h' e C dO T (rawInt L)->Kept ((env::outer).filterMap (·.frame)) [e] s.heap h'->Q () { s with heap:=h' }):wpAny M A (noteFrame (.ref e) env) Q E s:=by
 obtain ⟨oe,vs,he,hc,Hf,hd,h1⟩:=hx
 unfold noteFrame
 simp only[hf]
 refine wpAny_bind (wpAny_field he hd h1 ?_)
 rw[if_neg (by decide)]
 exact vY lE hl hf he hc Hf hd (Array.getElem?_eq_some_iff.mp h1).1 hQ
theorem Di {T0:Addr} {Q:Unit->Shared->Prop} (lE:A.frames=some (env::outer)) (hl:s.heap.FunFrames base (env::outer)) (hf:env.frame=some L) (hx:Tb s.heap e C dO T0 .none)
  (hQ: ∀h' T,s.heap.get? T=none->Tb h' e C dO T (rawInt L)->Kept ((env::outer).filterMap (·.frame)) [T0,e] s.heap h'->Q () { s with heap:=h' }):wpAny M A (noteFrame (.ref e) env) Q E s:=by
 obtain ⟨oe,vs,oT,ts,he,hc,Hf,hd,h1,ne,hT,Hg,h3⟩:=hx
 unfold noteFrame
 simp only[hf]
 refine wpAny_bind (wpAny_field he hd h1 ?_)
 rw[if_pos (by simp)]
 refine wpAny_bind (wpAny_field hT Hg h3 ?_)
 rw[if_neg (by simp[rawInt])]
 refine wpAny_bind (wpAny_setField hT Hg (Array.getElem?_eq_some_iff.mp h3).1 ?_)
 have X3:=ik hl hT Hg
 have k1:Kept ((env::outer).filterMap (·.frame)) [T0] s.heap (s.heap.update T0 (Obj.mapFields (·.setIfInBounds 3 Value.none))):=
  ⟨fun b o hb _ e0=>(Heap.get?_update_other _ _ (fun z=>hb (by simp[z]))).trans e0,fun b o hb _ e0=>⟨o.slots,(Heap.get?_update_other _ _ (fun z=>hb (by simp[z]))).trans e0⟩⟩
 refine vY (s:={ s with heap:=s.heap.update T0 (Obj.mapFields (·.setIfInBounds 3 Value.none)) }) lE (k1.frames (fun b hb=>⟨hb,fun z=>X3 ((List.mem_singleton.mp z)▸hb)⟩) hl) hf
  (k1.keep e oe (fun z=>ne (List.mem_singleton.mp z).symm) (ik hl he hd) he) hc Hf hd (Array.getElem?_eq_some_iff.mp h1).1 fun h' T hn tb k2=>hQ h' T ?_ tb (k1.trans k2)
 cases hq:s.heap.get? T with
 | none=>rfl
 | some o=>
  exfalso
  by_cases z:T=T0
  ·rw[z,Heap.get?_update_self _ hT (Obj.isFreed_of_fields (Obj.data_mapFields Hg _))]at hn
   cases hn
  ·rw[Heap.get?_update_other _ _ (Ne.symm z),hq]at hn
   cases hn
theorem pZ {S:List Addr} {T:Addr} {fl:Value} {Q:Unit->Shared->Prop} (hx:Tb s.heap e C dO T fl) (hQ: ∀h',Tb h' e C dO T .none->Kept S [T] s.heap h'->Q () { s with heap:=h' }):wpAny M A (setFlight (.ref e) none) Q E s:=by
 obtain ⟨oe,vs,oT,ts,he,hc,Hf,hd,h1,ne,hT,Hg,h3⟩:=hx
 unfold setFlight
 refine wpAny_bind (wpAny_field he hd h1 ?_)
 rw[if_pos (by simp)]
 have hsz:3<ts.size:=(Array.getElem?_eq_some_iff.mp h3).1
 have d2:=Obj.data_mapFields Hg (·.setIfInBounds 3 ((none:Option Addr).elim Value.none fun f=>rawInt f))
 refine wpAny_setField hT Hg hsz (hQ _ ⟨oe,vs,_,_,(Heap.get?_update_other _ _ ne).trans he,hc,Hf,hd,h1,ne,Heap.get?_update_self _ hT (Obj.isFreed_of_fields d2),d2,by simp[hsz]⟩
  ⟨fun b o hb _ e0=>(Heap.get?_update_other _ _ (fun z=>hb (by simp[z]))).trans e0,fun b o hb _ e0=>⟨o.slots,(Heap.get?_update_other _ _ (fun z=>hb (by simp[z]))).trans e0⟩⟩)
end
end XL
set_option maxHeartbeats 4000000
namespace L2
open PySem PySem.Spec PyProof.Rows XL
noncomputable def cV (nw:Bool) (e C:Addr) (dO:Option Addr):HO:= .ext fun h=> ∃oe vs,h.get? e=some oe/\oe.cls= .ref C/\oe.dict=dO/\oe.data= .fields vs/\(nw=true->vs[1]? =some .none/\ ∃t0,vs[0]? =some (.ref t0))
noncomputable def qF (d:Addr) (fs:List (Str×V)):HO:= .ext fun h=> ∃mA,h.Ns1 d mA/\(∀f,i7 (fs.lookup f) (mA f))/\PySem.Within mA (fs.map (·.1))
noncomputable def tN (H:Hp) (e:Addr):Hp:=fun b=>if b=e then none else H b
theorem il {H:Hp} {e:Addr}:tN H e e=none:=by unfold tN;rw[if_pos rfl]
theorem ip {H:Hp} {e b:Addr} (h:b≠e):tN H e b=H b:=by unfold tN;rw[if_neg h]
theorem dE {H:Hp} {e b:Addr} (h:H b=none):tN H e b=none:=by
 unfold tN
 split
 ·rfl
 ·exact h
section
variable {P:Program} {w:World} {H H' H1 H2:Hp} {h h' h0 h1 h2:Heap} {a e:Addr} {o:HO} {fs ex S:List Addr}
theorem bG.Am (x:bG P w H h a o): ∃ob,h.get? a=some ob:=by
 cases o with
 | lst xs=>obtain ⟨_,_,_,_,q⟩:=x;exact ⟨_,q⟩
 | tup xs=>obtain ⟨_,_,_,ob,q,_⟩:=x;exact ⟨ob,q⟩
 | dK kvs=>obtain ⟨_,_,_,_,ob,_,_,q,_⟩:=x;exact ⟨ob,q⟩
 | dT kvs=>obtain ⟨_,_,_,_,ob,_,_,q,_⟩:=x;exact ⟨ob,q⟩
 | set S n=>obtain ⟨ob,_,_,_,q,_⟩:=x;exact ⟨ob,q⟩
 | ins C dx fs=>obtain ⟨_,_,_,q,_⟩:=x;exact ⟨_,q⟩
 | own y=>exact x
 | xd fs=>obtain ⟨_,⟨ob,_,_,q,_⟩,_⟩:=x;exact ⟨ob,q⟩
 | NF lo hi=>obtain ⟨_,_,_,q⟩:=x;exact ⟨_,q⟩
 | tT ob u=>obtain ⟨q,_⟩:=x;exact ⟨ob,q⟩
 | EA ps=>exact ⟨_,(show h.get? a=some _ from x)⟩
 | met f y=>exact ⟨_,(show h.get? a=some _ from x)⟩
 | ext φ=>obtain ⟨_,q,_⟩:=x;exact q
theorem gD.none_of (ok:gD P w H h) (q:h.get? a=none):H a=none:=by
 cases e:H a with
 | none=>rfl
 | some u=>
  obtain ⟨ob,z⟩:=(ok a u e).Am
  rw[q]at z;cases z
theorem An (u:Un fs ex H H1 h h1) (he: ∃φ,H1 e=some (.ext φ)):Un fs ex H (tN H1 e) h h1:=by
 obtain ⟨φ,he⟩:=he
 have ne: ∀{b o},H1 b=some o->(∀ψ,o≠ .ext ψ)->b≠e:=fun {b o} q n z=>by
  rw[z,he]at q
  exact n φ (Option.some.inj q).symm
 refine ⟨u.keep,u.slot,fun b o q n hx=>dE (u.free b o q n hx),u.there,fun b xs q=>?_,fun b ob v q=>?_,fun b ps q=>?_⟩
 ·have z:=u.jl b xs q
  rw[ip (ne z (fun _ z=>by cases z))];exact z
 ·have z:=u.i8 b ob v q
  rw[ip (ne z (fun _ z=>by cases z))];exact z
 ·obtain ⟨more,z⟩:=u.jH b ps q
  exact ⟨more,by rw[ip (ne z (fun _ z=>by cases z))];exact z⟩
theorem v3 (ok:gD P w H h) (he: ∃φ,H e=some (.ext φ)):gD P w (tN H e) h:=fun b u q=>by
 obtain ⟨φ,he⟩:=he
 have hb:b≠e:=fun z=>by rw[z,il]at q;cases q
 rw[ip hb]at q
 refine (ok b u q).lA (fun _ _ _ z=>z) (fun c z=>?_) fun c xs z=>?_
 ·rw[ip (fun y=>by rw[y,he]at z;cases z)];exact z
 ·rw[ip (fun y=>by rw[y,he]at z;cases z)];exact z
theorem Dj {outer:List Env} {env:Env} {L:Addr} (u:Un (jE outer) [] H H2 h0 h2) (k:Kept ((env::outer).filterMap (·.frame)) ex h2 h') (hx: ∀b∈ex,h0.get? b=none) (hf:env.frame=some L) (hL:h0.get? L=none):Un (jE outer) [] H H2 h0 h':=by
 have NZ: ∀{b o},h0.get? b=some o->b∉ex:=fun {b o} q z=>by rw[hx b z]at q;cases q
 have Qw: ∀{b},b∈jE outer->b∈(env::outer).filterMap (·.frame):=fun {b} z=>by rw[List.filterMap_cons,hf];exact List.mem_cons_of_mem _ z
 have Dk: ∀{b o},h0.get? b=some o->b∉jE outer->b∉(env::outer).filterMap (·.frame):=fun {b o} q n z=>by
  rw[List.filterMap_cons,hf]at z
  rcases List.mem_cons.mp z with z | z
  ·rw[z,hL]at q;cases q
  ·exact n z
 refine ⟨fun b o q n hb _=>k.keep b o (NZ q) (Dk q hb) (u.keep b o q n hb (by simp)),fun b o q n hb _=>?_,u.free,fun b o q _=>?_,u.jl,u.i8,u.jH⟩
 ·obtain ⟨sl,z⟩:=u.slot b o q n hb (by simp)
  obtain ⟨uf,z2⟩:=k.slot b _ (NZ q) (Qw hb) z
  exact ⟨uf,z2⟩
 ·obtain ⟨o',z⟩:=u.there b o q (by simp)
  by_cases hb:b∈jE outer
  ·obtain ⟨uf,z2⟩:=k.slot b _ (NZ q) (Qw hb) z
   exact ⟨_,z2⟩
  ·exact ⟨o',k.keep b o' (NZ q) (Dk q hb) z⟩
theorem rF (ok:gD P w H h) (k:Kept S ex h h') (hS: ∀b∈S,H b=none) (hx: ∀b∈ex,H b=none):gD P w H h':=fun b u q=>by
 have tr: ∀{c o},H c=some o->c∉S/\c∉ex:=fun {c o} z=>⟨fun y=>(by rw[hS c y]at z;cases z),fun y=>(by rw[hx c y]at z;cases z)⟩
 refine (ok b u q).lA (fun c v hc z=>?_) (fun _ z=>z) fun _ _ z=>z
 rcases hc with y | y
 ·rw[y]at z ⊢; exact k.keep b v (tr q).2 (tr q).1 z
 ·exact k.keep c v (tr y).2 (tr y).1 z
theorem lM {nw:Bool} {C:Addr} {dO:Option Addr} (q: ∃oe vs,h.get? e=some oe/\oe.cls= .ref C/\oe.dict=dO/\oe.data= .fields vs/\(nw=true->vs[1]? =some .none/\ ∃t0,vs[0]? =some (.ref t0))):bG P w H h e (cV nw e C dO):=
 ⟨q,let ⟨oe,_,z,_⟩:=q;⟨oe,z⟩,fun h1 h2 ⟨oe,vs,z,r⟩ k=>⟨oe,vs,k oe z,r⟩⟩
theorem dF {nw:Bool} {C:Addr} {dO:Option Addr} (ok:gD P w H h) (q:H e=some (cV nw e C dO)): ∃oe vs,h.get? e=some oe/\oe.cls= .ref C/\oe.dict=dO/\oe.data= .fields vs/\(nw=true->vs[1]? =some .none/\ ∃t0,vs[0]? =some (.ref t0)):=(ok e _ q).1
theorem Ao {d:Addr} {fs:List (Str×V)} (q: ∃mA,h.Ns1 d mA/\(∀f,i7 (fs.lookup f) (mA f))/\PySem.Within mA (fs.map (·.1))):bG P w H h d (qF d fs):=
 ⟨q,let ⟨_,⟨o,_,_,z,_⟩,_⟩:=q;⟨o,z⟩,fun h1 h2 ⟨mA,⟨o,es,ep,z,r⟩,r2⟩ k=>⟨mA,⟨o,es,ep,k o z,r⟩,r2⟩⟩
end
def Lv (P:Program) (w:World) (K:PySem.W.Frag):vC:=fun outer H s E ev s'=> ∃(e C:Addr) (dO:Option Addr) (T:Addr) (H':Hp),ev= .ref e/\XC K C/\s'.os=s.os/\AllBare s'.gens/\Un (jE outer) [] H H' s.heap s'.heap/\gD P w H' s'.heap/\
 s.heap.get? e=none/\s.heap.get? T=none/\H' e=none/\H' T=none/\Tb s'.heap e C dO T .none/\E (.ref C) dO H'
def Throws (X:Cx) (E:St->XK):Prop:= ∀(pins:List (Addr×Obj)) (σ:St) (H:Hp) (s:Shared) (e C:Addr) (dO:Option Addr),Inv X pins σ H s->H e=some (cV true e C dO)->X.H₀ e=none->XC X.K C->E σ (.ref C) dO (tN H e)->X.xe (.ref e) s
def v5 (CX:vC) (X:Cx) (E:St->XK):Prop:= ∀(pins:List (Addr×Obj)) (σ:St) (H:Hp) (s:Shared) (e:Value) (s':Shared),Inv X pins σ H s->CX X.stack H s (E σ) e s'->X.xe e s'
section
variable {P:Program} {w:World} {K:PySem.W.Frag} {mg:Str->Option Value} {base:Heap} {N:List Str} {qual:Str} {scope:Scope} {f:Addr} {cd:Value} {A:Around} {outer:List Env} {s:Shared} {H:Hp} {E:XK}
theorem Hh:Throws (qP (Lv P w K) P w K mg base N qual scope f cd A outer s H E) (fun _=>E):=by
 intro pins σ H1 s1 e C dO I he hn c q
 obtain ⟨oe,vs,x1,x2,x3,x4,x5⟩:=dF I.aX he
 have e0:s.heap.get? e=none:=by
  cases z:s.heap.get? e with
  | none=>rfl
  | some o=>
   have:=I.base.free e o z hn (by show e∉([]:List Addr);simp)
   rw[he]at this;cases this
 show wpAny _ _ (leaving _ (.ref e)) _ _ s1
 unfold leaving
 refine wpAny_bind (vZ (base:=base) (L:=s.heap.objs.size) I.ok.frames I.stack rfl ⟨oe,vs,x1,x2,x3,x4,(x5 rfl).1⟩ fun h1 T hT tb k1=>?_)
 refine pZ (S:=(envOfC qual scope s.heap.objs.size f cd::outer).filterMap (·.frame)) tb fun h2 Lw k2=>?_
 have T0:s.heap.get? T=none:=by
  cases z:s.heap.get? T with
  | none=>rfl
  | some o=>
   obtain ⟨o',z'⟩:=I.base.there T o z (by show T∉([]:List Addr);simp)
   rw[hT]at z';cases z'
 have nT:H1 T=none:=I.aX.none_of hT
 refine ⟨e,C,dO,T,tN H1 e,rfl,c,I.os,I.bare,Dj (An I.base ⟨_,he⟩) (k1.trans k2) (fun b hb=>?_) rfl (Heap.get?_none_of_le (Nat.le_refl _)),rF (v3 I.aX ⟨_,he⟩) (k1.trans k2) (fun b hb=>dE (I.lI b hb)) (fun b hb=>?_),e0,T0,il,dE nT,Lw,q⟩
 ·simp only[List.cons_append,List.nil_append,List.mem_cons,List.not_mem_nil,or_false]at hb
  rcases hb with z | z<;>rw[z]<;>assumption
 ·simp only[List.cons_append,List.nil_append,List.mem_cons,List.not_mem_nil,or_false]at hb
  rcases hb with z | z<;>rw[z]
  ·exact il
  ·exact dE nT
end
end L2
set_option maxHeartbeats 4000000
namespace L2
open PySem PySem.Spec PyProof.Rows XL
theorem Hi {H:Hp} {a:Addr} {o:HO} (h:H a=some o):upd H a o=H:=by
 funext b
 unfold upd
 split
 ·rename_i z;rw[z,h]
 ·rfl
section
variable {X:Cx} {pins:List (Addr×Obj)} {σ:St} {H:Hp} {s:Shared} {a:Addr} {o:HO}
theorem Inv.E5 (I:Inv X pins σ H s) (hn:H a=none) (h0:X.s₀.heap.get? a=none) (hL:a≠X.env.locals) (hc: ∀x c,X.env.cells.lookup x=some c->c≠a) (hp: ∀p∈X.pn++pins,p.1≠a) (new:bG X.prog X.w (upd H a o) s.heap a o):
  Inv X pins σ (upd H a o) s:=by
 refine ⟨I.ok,I.os,I.bare,⟨I.base.keep,I.base.slot,fun b ob q n hx=>?_,I.base.there,fun b xs q=>?_,fun b ob u q=>?_,fun b ps q=>?_⟩,I.loc,I.cell,?_,fun x c q=>?_,fun p JE=>?_,fun b u q=>?_,I.len⟩
 ·rw[aj (fun z=>by rw[z,h0]at q;cases q)];exact I.base.free b ob q n hx
 ·have z:=I.base.jl b xs q
  rw[aj (ao z hn)];exact z
 ·have z:=I.base.i8 b ob u q
  rw[aj (ao z hn)];exact z
 ·obtain ⟨more,z⟩:=I.base.jH b ps q
  exact ⟨more,by rw[aj (ao z hn)];exact z⟩
 ·rw[aj (Ne.symm hL)];exact I.free
 ·rw[aj (hc x c q)];exact I.dw x c q
 ·obtain ⟨z1,z2,z3⟩:=I.pin p JE
  exact ⟨z1,by rw[aj (hp p JE)];exact z2,z3⟩
 ·by_cases hb:b=a
  ·subst hb;rw[ae]at q;cases q;exact new
  ·rw[aj hb]at q
   exact (I.aX b u q).lA (fun _ _ _ z=>z) (fun c z=>by rw[aj (ao z hn)];exact z) fun c xs z=>by rw[aj (ao z hn)];exact z
theorem Inv.Dl (I:Inv X pins σ H s) (he: ∃φ,H a=some (.ext φ)):Inv X pins σ (tN H a) s:=
 ⟨I.ok,I.os,I.bare,An I.base he,I.loc,I.cell,dE I.free,fun x c q=>dE (I.dw x c q),fun p hp=>let ⟨z1,z2,z3⟩:=I.pin p hp;⟨z1,dE z2,z3⟩,v3 I.aX he,I.len⟩
theorem Inv.Ap {ex:List Addr} {h':Heap} (I:Inv X pins σ H s) (k:Kept (jE X.stack) ex s.heap h') (hx: ∀b∈ex,X.s₀.heap.get? b=none/\(∀o,s.heap.get? b=some o-> ∃vs,o.data= .fields vs)/\(∀p∈X.pn++pins,p.1≠b)/\H b=none):Inv X pins σ H { s with heap:=h' }:=by
 have nL:X.env.locals∉ex:=fun z=>by
  obtain ⟨m,⟨ol,es,ep,q,qd,_⟩,_⟩:=I.loc
  obtain ⟨vs,e⟩:=(hx _ z).2.1 ol q
  rw[qd]at e;cases e
 have any: ∀{b ob},b∉ex->s.heap.get? b=some ob-> ∃sl,h'.get? b=some { ob with slots:=sl }:=fun {b ob} n q=>by
  by_cases hb:b∈jE X.stack
  ·exact k.slot b ob n hb q
  ·exact ⟨ob.slots,k.keep b ob n hb q⟩
 have nc: ∀{x c},X.env.cells.lookup x=some c->c∉ex:=fun {x c} e z=>by
  obtain ⟨v,oc,q,qd⟩:=I.cell x c e
  obtain ⟨vs,e'⟩:=(hx _ z).2.1 oc q
  rw[qd]at e';cases e'
 have Qx: ∀{b ob},X.s₀.heap.get? b=some ob->b∉ex:=fun {b ob} q z=>by rw[(hx b z).1]at q;cases q
 have Qw: ∀{b},b∈X.fs->b∈jE X.stack:=fun {b} hb=>by
  rcases I.ok.EC with e | ⟨e,hf⟩
  ·rw[e];exact hb
  ·rw[e];unfold jE;rw[List.filterMap_cons,hf];exact List.mem_cons_of_mem _ hb
 have Dk: ∀{b ob},X.s₀.heap.get? b=some ob->b∉X.fs->b∉jE X.stack:=fun {b ob} q n z=>by
  rcases List.mem_cons.mp (I.jo b z) with y | y
  ·exact absurd (Nat.lt_of_lt_of_le (Heap.lt_size q) I.ok.above) (by rw[y];exact Nat.lt_irrefl _)
  ·exact n y
 refine ⟨I.ok,I.os,I.bare,⟨fun b ob q n hb Aq=>k.keep b ob (Qx q) (Dk q hb) (I.base.keep b ob q n hb Aq),fun b ob q n hb Aq=>?_,I.base.free,fun b ob q Aq=>?_,I.base.jl,I.base.i8,I.base.jH⟩,?_,fun x c e=>?_,I.free,I.dw,fun p hp=>?_,?_,I.len⟩
 ·obtain ⟨sl,z⟩:=I.base.slot b ob q n hb Aq
  obtain ⟨uf,z2⟩:=any (Qx q) z
  exact ⟨uf,z2⟩
 ·obtain ⟨o',z⟩:=I.base.there b ob q Aq
  obtain ⟨uf,z2⟩:=any (Qx q) z
  exact ⟨_,z2⟩
 ·obtain ⟨m,⟨ol,es,ep,q,qd,qr⟩,hl⟩:=I.loc
  obtain ⟨sl,z⟩:=any nL q
  refine ⟨m,⟨_,es,ep,z,qd,qr⟩,fun i x v e1 e2 e3=>?_⟩
  obtain ⟨u,r,l⟩:=hl i x v e1 e2 e3
  refine ⟨u,r,?_⟩
  rcases l with l | ⟨kk,c,e,oc,q2,q3⟩
  ·exact .inl l
  ·obtain ⟨uf,z2⟩:=any (nc e) q2
   exact .inr ⟨kk,c,e,_,z2,q3⟩
 ·obtain ⟨v,oc,q,qd⟩:=I.cell x c e
  obtain ⟨sl,z⟩:=any (nc e) q
  exact ⟨v,_,z,qd⟩
 ·obtain ⟨z1,z2,z3,z4,z5⟩:=I.pin p hp
  refine ⟨k.keep p.1 p.2 (fun y=>(hx p.1 y).2.2.1 p hp rfl) (fun y=>?_) z1,z2,z3,z4,z5⟩
  rcases List.mem_cons.mp (I.jo p.1 y) with q | q
  ·exact z3 q
  ·exact z4 q
 ·exact rF I.aX k (fun b hb=>I.lI b hb) fun b hb=>(hx b hb).2.2.2
end
def Hj (sp:Sp) (ue:List V) (E:St->XK) (t:TA):TE:=fun σ H Q=>t σ H fun vs H1=>sp (vs++ue) H1 Q (E σ)
section
variable {X:Cx} {CX:vC} {k:Nat} {f C:Addr} {fd:FuncData} {ps:List Str} {sp:Sp} {ue:List V} {ds:List Value} {E:St->XK} {x:Str} {p pos:Pos} {e:Expr} {es:List Expr} {ta te:TE} {t:TA}
theorem Ar (F:cD X.prog X.w X.K X.mg X.base CX k f fd ps sp) (hr:dA k X.A) (hg:Gl X x) (hm:X.mg x=some (.ref f)) (hk:PySem.W.keepIn X.K (.ref f)=true) (hb:Binds X.K fd ps ds) (hd:Vals ue ds) (hx:v5 CX X E)
  (ha:PA X (e::es) t) (nu:(x==("__debug__":Str))=false:=by decide) (he:starEach (e::es) X.env=(false,eval e X.env)::starEach es X.env:=by rfl) (gB:(backTo pos (starEach es X.env)).any (·.1)=false:=by rfl):
  PE X (.Call (.Name x p) (e::es) [] pos) (Hj sp ue E t):=by
 intro pins s σ H Q I h
 refine wpAny_Call_Name_kw (iI I hg hm ?_ nu)
 refine PySem.W.callWith_K (h₀:=X.base) I.ok.mod.Ka hk (bQ (ha pos pins s σ H _ I h) fun us s1 ⟨vs,H1,I1,r,q⟩=>⟨I1.jn,?_⟩) he gB
 have r2:Vals (vs++ue) (us++ds):=r.append hd
 have hl:(us++ds).length=ps.length:=by rw[<-r2.length];exact F.len _ _ _ _ q
 refine wpAny_call (codeAny_mono (F.run X.A X.stack s1 H1 ⟨us,[]⟩ (us++ds) (vs++ue) Q (E σ) hr I1.Gg (hb s1 us I1.jn hl) r2 q) fun rr s' hq=>?_)
 cases rr with
 | error ev=>exact hx pins σ H1 s1 ev s' I1 hq
 | ok fl=>
  cases fl with
  | ret u=>exact I1.after hq
  | next=>exact False.elim hq
  | brk=>exact False.elim hq
  | cont=>exact False.elim hq
def As (K:PySem.W.Frag) (H0:Hp) (E:St->XK) (te:TE):TS:=fun _ σ H=>te σ H fun v H1=> ∃e C dO,v= .ref e/\H1 e=some (cV true e C dO)/\H0 e=none/\XC K C/\E σ (.ref C) dO (tN H1 e)
theorem Au (hh:X.A.handled=none) (th:Throws X E) (hx:PE X e te):PS X (.Raise (some e) none pos) (As X.K X.H₀ E te):=by
 intro pins s σ H D I h
 rw[arm_exec_Raise]
 refine wpAny_bind (wpAny_standAt ?_)
 refine x_raise (K:=X.K) hh ?_
 refine wpAny_bind (bQ (hx pins s σ H _ I h) fun u s1 ⟨v,H1,I1,r,e1,C,dO,ev,he,h0,c,q⟩=>wpAny_bind (wpAny_standAt (wpAny_pure ?_)))
 subst ev
 obtain rfl:u=Value.ref e1:=r
 obtain ⟨oe,vs,x1,x2,x3,x4,x5⟩:=dF I1.aX he
 exact ⟨e1,C,oe,vs,rfl,I1.jn,c,x1,x2,x4,(x5 rfl).1,th pins σ H1 s1 e1 C dO I1 he h0 c q⟩
end
section
variable {P:Program} {w:World} {K:PySem.W.Frag} {mg:Str->Option Value} {base:Heap}
theorem CN.X4 {x qual:Str} {st:Stmt} {f:Addr} {fd:FuncData} {N ps:List Str} {k:Nat} {sp:Sp} (F:CN K x qual st f fd) (S:bc N ps (ar st)) (len: ∀vs H Q E,sp vs H Q E->vs.length=ps.length)
  (qR: ∀(dS:Value) (A:Around) (outer:List Env) (s:Shared) (H:Hp) (vs:List V) (Q:VK) (E:XK),dA k (A.deeper (envOfC qual (ar st) s.heap.objs.size f dS))->sp vs H Q E->
   ∃t,qM (qP (Lv P w K) P w K mg base N qual (ar st) f dS A outer s H E) (aZ st) t/\t { nx:=fun _ H'=>Q .bY H',rt:=Q } (start N vs) H):cD P w K mg base (Lv P w K) (k+1) f fd ps sp:=by
 obtain ⟨oc,od,kV,doc,pm,an,dS,ct,vD,rfl,lk,nM⟩:=F.ex
 exact ER lk nM S len fun A outer s H vs Q E hr B9=>qR dS A outer s H vs Q E hr B9
end
end L2
set_option maxHeartbeats 4000000
namespace L2
open PySem PySem.Spec PyProof.Rows XL
structure E6 (K:PySem.W.Frag) (C f:Addr):Prop where
 c:XC K C
 init:PySem.W.findIn K (.ref C) "__init__"=some (some (.ref f))
 fn:PySem.W.isFn K (.ref f)=true
structure E7 (K:PySem.W.Frag) (M:Addr):Prop where
 rd:PySem.W.readsIn K M (.type "type")=true
 ga:PySem.W.specialIn K (.ref M) "__getattribute__"=some (some (.builtin "type.__getattribute__"))
 fi:PySem.W.findCls K (.ref M) (.type "type") "__init__"=some (.val (.builtin "ValueError.__init__"))
def Hk (C:Addr) (sp:Sp) (t:TA):TE:=fun σ H Q=>t σ H fun vs H1=>vs.length<=sizeLine/\ ∀e,H1 e=none->sp (.ref e::vs) (upd H1 e (cV true e C none)) (fun v H2=>v= .bY/\Q (.ref e) H2) E0
section
variable {X:Cx} {k:Nat} {f C M:Addr} {fd:FuncData} {ps:List Str} {sp:Sp} {x:Str} {p pos apos:Pos} {e:Expr} {es:List Expr} {ta te tv:TE} {t:TA} {pins:List (Addr×Obj)} {σ:St} {H:Hp} {s:Shared}
theorem Inv.Lx {us:List Value} (I:Inv X pins σ H s):Inv X pins σ (upd H (s.heap.objs.size+1) (cV true (s.heap.objs.size+1) C none)) { s with heap:=(s.heap.push { cls:= .type "tuple",data:= .seq us.toArray }).push (fZ C s.heap.objs.size) }:=by
 have I1:=I.kept (h':=s.heap.push { cls:= .type "tuple",data:= .seq us.toArray }) (t':=s.toks) fun b u q=>Heap.get?_push_of_some _ q
 refine I1.laid (a:=s.heap.objs.size+1) (t':=s.toks) (fun b u q=>Heap.get?_push_of_some _ q) (Nat.le_of_eq (Heap.size_push _ _)) (lM ?_)
 have g:((s.heap.push { cls:= .type "tuple",data:= .seq us.toArray }).push (fZ C s.heap.objs.size)).get? (s.heap.objs.size+1)=some (fZ C s.heap.objs.size):=by
  have:=Heap.get?_push_size (s.heap.push { cls:= .type "tuple",data:= .seq us.toArray }) (o:=fZ C s.heap.objs.size) rfl
  rwa [Heap.size_push]at this
 exact ⟨_,_,g,rfl,rfl,rfl,fun _=>⟨rfl,_,rfl⟩⟩
theorem Av (M:E6 X.K C f) (F:cD X.prog X.w X.K X.mg X.base iK k f fd ps sp) (hr:dA (k+1) X.A) (hg:Gl X x) (hm:X.mg x=some (.ref C)) (hb:Binds X.K fd ps [])
  (ha:PA X (e::es) t) (nu:(x==("__debug__":Str))=false:=by decide) (he:starEach (e::es) X.env=(false,eval e X.env)::starEach es X.env:=by rfl) (gB:(backTo pos (starEach es X.env)).any (·.1)=false:=by rfl):
  PE X (.Call (.Name x p) (e::es) [] pos) (Hk C sp t):=by
 intro pins s σ H Q I h
 refine wpAny_Call_Name_kw (iI I hg hm ?_ nu)
 refine PySem.W.callWith_K (h₀:=X.base) I.ok.mod.Ka M.c.kp (bQ (ha pos pins s σ H _ I h) fun us s1 ⟨vs,H1,I1,r,hz,q⟩=>⟨I1.jn,?_⟩) he gB
 have I2:=Inv.Lx (C:=C) (us:=us) I1
 have hq:=q (s1.heap.objs.size+1) (I1.aX.fresh (Nat.le_succ _))
 have r2:Vals (V.ref (s1.heap.objs.size+1)::vs) (Value.ref (s1.heap.objs.size+1)::us):= .cons rfl r
 have hl:(Value.ref (s1.heap.objs.size+1)::us++[]).length=ps.length:=by
  have z:=r2.length
  rw[F.len _ _ _ _ hq]at z
  rw[List.append_nil]
  exact z.symm
 have ET:=hb { s1 with heap:=(s1.heap.push { cls:= .type "tuple",data:= .seq us.toArray }).push (fZ C s1.heap.objs.size) } (Value.ref (s1.heap.objs.size+1)::us) I2.jn hl
 rw[List.append_nil]at ET
 have run:=F.run _ X.stack _ _ ⟨Value.ref (s1.heap.objs.size+1)::us,[]⟩ (Value.ref (s1.heap.objs.size+1)::us) _ _ E0 (hr.make C us []) (I2.Gg.make C us []) ET r2 hq
 have K1:=I1.jn
 have fn:=beq_iff_eq.mp M.fn
 obtain ⟨hh,gg,dd,tt,oo⟩:=s1
 refine x_call (dD K1 M.c.is) (PySem.W.looks_findIn K1 M.init) (fun self=>PySem.W.bind_fn K1 self fn) (by show us.length<=sizeLine;rw[<-r.length];exact hz) ?_
 refine wpAny_call (codeAny_mono run fun rr s' nB=>?_)
 cases rr with
 | error ev=>exact nB.elim
 | ok fl=>
  cases fl with
  | ret u=>
   obtain ⟨v,H',I3,rv,ev,q3⟩:=I2.after nB
   subst ev
   exact ⟨rv,⟨V.ref (hh.objs.size+1),H',I3,rfl,q3⟩⟩
  | next=>exact False.elim nB
  | brk=>exact False.elim nB
  | cont=>exact False.elim nB
theorem Inv.Ly {ec:Addr} {dO:Option Addr} {us:List Value} (I:Inv X pins σ H s) (he:H ec=some (cV true ec C dO)):Inv X pins σ H { s with heap:=(s.heap.push { cls:= .type "tuple",data:= .seq us.toArray }).update ec (Obj.mapFields (·.setIfInBounds 0 (.ref s.heap.objs.size))) }:=by
 obtain ⟨oe,vs,x1,x2,x3,x4,x5⟩:=dF I.aX he
 obtain ⟨y1,t0,y2⟩:=x5 rfl
 have I1:=I.kept (h':=s.heap.push { cls:= .type "tuple",data:= .seq us.toArray }) (t':=s.toks) fun b u q=>Heap.get?_push_of_some _ q
 have d2:=Obj.data_mapFields x4 (·.setIfInBounds 0 (Value.ref s.heap.objs.size))
 have g:=Heap.get?_update_self (Obj.mapFields (·.setIfInBounds 0 (Value.ref s.heap.objs.size))) (Heap.get?_push_of_some { cls:= .type "tuple",data:= .seq us.toArray } x1) (Obj.isFreed_of_fields d2)
 have hz:0<vs.size:=(Array.getElem?_eq_some_iff.mp y2).1
 have:=I1.write (x:=ec) (e:=ec) (o:=cV true ec C dO) (t':=s.toks) (h':=(s.heap.push { cls:= .type "tuple",data:= .seq us.toArray }).update ec (Obj.mapFields (·.setIfInBounds 0 (.ref s.heap.objs.size)))) (by rw[he];exact True.intro) (.inl rfl) (fun b u hb q=>(Heap.get?_update_other _ _ (Ne.symm hb)).trans q) ⟨_,g⟩ (lM ⟨_,_,g,(Obj.cls_mapFields _ _).trans x2,?_,d2,fun _=>⟨by rw[Array.getElem?_setIfInBounds_ne (by decide)];exact y1,s.heap.objs.size,by simp[hz]⟩⟩)
 ·rw[Hi he]at this;exact this
 ·rw[<-x3]
  obtain ⟨oc,od,De,vD⟩:=oe
  cases (show De=_ from x4)
  rfl
def Hl (K:PySem.W.Frag) (t:TA):TE:=fun σ H Q=>t σ H fun vs H1=> ∃e C dO rest,vs= .ref e::rest/\rest.length<=sizeLine/\H1 e=some (cV true e C dO)/\XC K C/\Q .bY H1
theorem Aw {mx:Str} {mp:Pos} {pl:Sem Bool} (B:E7 X.K M) (hg:Gl X mx) (hm:X.mg mx=some (.ref M)) (ha:PA X (e::es) t) (nu:(mx==("__debug__":Str))=false:=by decide)
  (he:starEach (e::es) X.env=(false,eval e X.env)::starEach es X.env:=by rfl) (gB:(backTo pos (starEach es X.env)).any (·.1)=false:=by rfl)
  (ht:eval (.Call (.Attribute (.Name mx mp) "__init__" apos) (e::es) [] pos) X.env=(do
   let ov <-eval (.Name mx mp) X.env
   standAt apos.atName
   let (f,first) <-holding [ov] (getMethod ov "__init__" pl)
   callWith pos f first (backTo pos (starEach (e::es) X.env)) (backToKw pos (keywordEach [] X.env))):=by rfl):
  PE X (.Call (.Attribute (.Name mx mp) "__init__" apos) (e::es) [] pos) (Hl X.K t):=by
 intro pins s σ H Q I h
 refine PySem.W.methodCall_KW (pl:=pl) (iI I hg hm ?_ nu) ht
 refine PySem.W.method_cls I.jn B.ga (PySem.W.cls_value I.jn B.rd B.fi rfl ?_)
 refine PyProof.Rows.callWith_builtin1 (bQ (ha pos pins _ σ H _ (I.tok _) h) fun us s1 ⟨vs,H1,I1,r,ec,C,dO,rest,ev,hz,Vq,c,q⟩=>?_) he gB
 subst ev
 obtain ⟨u0,ur,rfl,r0,r1⟩: ∃u0 ur,us=u0::ur/\RelV (.ref ec) u0/\Vals rest ur:=by
  cases r with
  | cons a b=>exact ⟨_,_,rfl,a,b⟩
 obtain rfl:u0=Value.ref ec:=r0
 obtain ⟨oe,ws,x1,x2,x3,x4,x5⟩:=dF I1.aX Vq
 obtain ⟨y1,t0,y2⟩:=x5 rfl
 have I2:=I1.Ly (us:=ur) Vq
 have K1:=I1.jn
 obtain ⟨hh,gg,dd,tt,oo⟩:=s1
 exact Ha (dD K1 c.is) x1 x2 x4 y2 (by rw[<-r1.length];exact hz) ⟨.bY,H1,I2,rfl,q⟩
def Lz (K:PySem.W.Frag) (ta tv:TE) (f:Str):TS:=fun D σ H=>tv σ H fun y H1=>ta σ H1 fun x H2=> ∃e C,x= .ref e/\XC K C/\ub K C f/\
 ((H2 e=some (cV true e C none)/\ ∀d,H2 d=none->d≠e->D.nx σ (upd (upd H2 e (cV true e C (some d))) d (qF d [(f,y)])))\/
  (∃d fs,H2 e=some (cV true e C (some d))/\H2 d=some (qF d fs)/\d≠e/\fs.length<1000/\D.nx σ (upd H2 d (qF d (lB f y fs)))))
theorem Dm {o value:Expr} {g:Str} {pos':Pos} (ha:PE X o ta) (hv:PE X value tv) (hs:swapsWith value (some (.Attribute o g pos')) pos.line X.env=pure false):PS X (.Assign [.Attribute o g pos'] value pos) (Lz X.K ta tv g):=by
 intro pins s σ H D I h
 refine plainObj_wpAny_Assign_Attribute (bQ (hv pins s σ H _ I h) fun u s1 ⟨y,H1,I1,ry,q⟩=>bQ (ha pins s1 σ H1 _ I1 q) fun ov s2 ⟨x,H2,I2,rx,e,C,ex,c,n,q2⟩=>?_) hs
 subst ex
 obtain rfl:ov=Value.ref e:=rx
 have K2:=I2.jn
 rcases q2 with ⟨he,q2⟩ | ⟨d,fs,he,hd,ne,hl,q2⟩
 ·obtain ⟨oe,vs,x1,x2,x3,x4,x5⟩:=dF I2.aX he
  have nd:H2 s2.heap.objs.size=none:=I2.aX.fresh (Nat.le_refl _)
  have lt:s2.heap.objs.size≠e:=Nat.ne_of_gt (Heap.lt_size x1)
  have Fd:=Inv.lS (H':=H2) I2 (Nat.le_refl s2.heap.objs.size) nd
  have s0:X.s₀.heap.get? s2.heap.objs.size=none:=Heap.get?_none_of_le I2.sz
  have fin:=q2 _ nd lt
  have base:Inv X pins σ H2 s2:=I2
  obtain ⟨hh,gg,dd,tt,oo⟩:=s2
  refine E4 (ns:=[]) (mA:=fun _=>none) K2 (dD K2 c.is) c.sa n ⟨oe,x1,x2,(fun cc z=>by (rw[x4]at z;cases z)), .inl ⟨x3,fun _=>rfl⟩⟩ (fun h' vT In kp sm=>?_) (fun _ z=>absurd rfl z) (by decide)
  obtain ⟨o1,z1,z2,z3,z4,z5,z6⟩:=sm oe x1
  have keep: ∀b u,b≠e->hh.get? b=some u->h'.get? b=some u:=fun b u hb q=>kp b u hb (fun o₀ dx e0 e1=>by (rw[x1]at e0;cases e0;rw[x3]at e1;cases e1)) q
  have J:=base.write (x:=e) (e:=e) (o:=cV true e C (some hh.objs.size)) (t':=vT) (by rw[he];exact True.intro) (.inl rfl) keep ⟨o1,z1⟩ (lM ⟨o1,vs,z1,z2.trans x2,z6 x3,z3.trans x4,x5⟩)
  obtain ⟨o2,w1,w2,w3,w4⟩:=In
  rw[z1]at w1
  cases w1
  have ns:h'.Ns1 hh.objs.size (fun y=>if y=g then some u else none):=by
   rcases w4 with ⟨b1,_⟩ | ⟨dx,b1,_,b3⟩
   ·rw[z6 x3]at b1;cases b1
   ·rw[z6 x3]at b1;cases b1;exact b3
  refine ⟨σ,_,J.E5 (a:=hh.objs.size) (o:=qF hh.objs.size [(g,y)]) (by rw[aj lt];exact nd) s0 Fd.2.1 Fd.2.2.2.2.1 Fd.2.2.2.2.2 (Ao ⟨_,ns,fun a=>?_,fun a ha=>?_⟩),fin⟩
  ·show i7 (List.lookup a [(g,y)]) (if a=g then some u else none)
   by_cases z:a=g
   ·subst z
    rw[if_pos rfl,List.lookup_cons,beq_self_eq_true]
    exact ry
   ·rw[if_neg z,List.lookup_cons,beq_eq_false_iff_ne.mpr z]
    trivial
  ·have:a=g:=by
    by_cases z:a=g
    ·exact z
    ·exact absurd (show (if a=g then some u else none)=none by rw[if_neg z]) ha
   rw[this];simp
 ·obtain ⟨oe,vs,x1,x2,x3,x4,x5⟩:=dF I2.aX he
  obtain ⟨mA,n1,n2,n3⟩:=(I2.aX d _ hd).1
  have base:Inv X pins σ H2 s2:=I2
  obtain ⟨hh,gg,dd,tt,oo⟩:=s2
  refine E4 (ns:=fs.map (·.1)) (mA:=mA) K2 (dD K2 c.is) c.sa n ⟨oe,x1,x2,(fun cc z=>by (rw[x4]at z;cases z)), .inr ⟨d,x3,ne,n1⟩⟩ (fun h' vT In kp sm=>?_) n3 (by rw[List.length_map];exact xm (Nat.le_of_lt hl))
  obtain ⟨o1,z1,z2,z3,z4,z5,z6⟩:=sm oe x1
  have d1:=z5 d x3
  have X5:o1=oe:=by
   obtain ⟨a1,a2,a3,a4⟩:=o1
   obtain ⟨b1,b2,b3,b4⟩:=oe
   dsimp only at z2 z3 z4 d1 x3
   rw[z2,z3,z4,d1,x3]
  obtain ⟨o2,w1,w2,w3,w4⟩:=In
  rw[z1]at w1
  cases w1
  have ns:h'.Ns1 d (fun y=>if y=g then some u else mA y):=by
   rcases w4 with ⟨b1,_⟩ | ⟨dx,b1,_,b3⟩
   ·rw[d1]at b1;cases b1
   ·rw[d1]at b1;cases b1;exact b3
  have keep: ∀b u,b≠d->hh.get? b=some u->h'.get? b=some u:=fun b u hb q=>by
   by_cases z:b=e
   ·rw[z]at q ⊢
    rw[x1]at q
    cases q
    rw[z1,X5]
   ·exact kp b u z (fun o₀ dx e0 e1=>by (rw[x1]at e0;cases e0;rw[x3]at e1;cases e1;exact hb)) q
  refine ⟨σ,_,base.write (x:=d) (e:=d) (o:=qF d (lB g y fs)) (t':=vT) (by rw[hd];exact True.intro) (.inl rfl) keep (let ⟨o',_,_,zz,_⟩:=ns;⟨o',zz⟩) (Ao ⟨_,ns,fun a=>?_,fun a ha=>?_⟩),q2⟩
  ·show i7 ((lB g y fs).lookup a) (if a=g then some u else mA a)
   rw[kR]
   by_cases z:a=g
   ·rw[if_pos z,if_pos z];exact ry
   ·rw[if_neg z,if_neg z];exact n2 a
  ·by_cases z:a=g
   ·rw[z];exact (ko g y fs).1
   ·refine (ko g y fs).2 a (n3 a fun zz=>ha ?_)
    show (if a=g then some u else mA a)=none
    rw[if_neg z];exact zz
def E8 (K:PySem.W.Frag) (ta:TE) (f:Str):TE:=fun σ H Q=>ta σ H fun x H1=> ∃e C nw d fs v,x= .ref e/\H1 e=some (cV nw e C (some d))/\XC K C/\ub K C f/\H1 d=some (qF d fs)/\fs.lookup f=some v/\Q v H1
theorem Dn {o:Expr} {g:Str} (ha:PE X o ta) (hb:attributeBase o g X.env (eval o X.env)=eval o X.env):PE X (.Attribute o g pos) (E8 X.K ta g):=by
 intro pins s σ H Q I h
 refine CC hb (bQ (ha pins s σ H _ I h) fun u s1 ⟨x,H1,I1,rx,e,C,nw,d,fs,v,ex,he,c,n,hd,hl,q⟩=>?_)
 subst ex
 obtain rfl:u=Value.ref e:=rx
 obtain ⟨oe,vs,x1,x2,x3,x4,x5⟩:=dF I1.aX he
 obtain ⟨mA,n1,n2,n3⟩:=(I1.aX d _ hd).1
 obtain ⟨od,v7,ze⟩:=nR n1
 obtain ⟨u',hu,ru⟩:=i7.some_of (v:=v) (o:=mA g) (by rw[<-hl];exact n2 g)
 have K1:=I1.jn
 have fin: ∀t',Inv X pins σ H1 { s1 with toks:=t' }:=fun t'=>I1.tok t'
 have inst:PySem.W.InstAt s1.heap e oe C (some od):=⟨x1,x2,by unfold PySem.W.notCls;rw[x4],by rw[x3];exact v7⟩
 obtain ⟨hh,gg,dd,tt,oo⟩:=s1
 exact Lu K1 (dD K1 c.is) c.ga c.gh n inst (by rw[ze,hu]) (xa ru) ⟨v,H1,fin _,ru,q⟩
noncomputable def Hm:V->Option Value
 | .ref a=>some (.ref a)
 | .ty n=>some (.type n)
 | _=>none
theorem rG {v:V} {u z:Value} (h:Hm v=some z) (r:RelV v u):u=z:=by
 cases v<;>first | (cases h;exact r) | cases h
def Qy (K:PySem.W.Frag):List V->Hp->VK->Prop:=fun xs H Q=> ∃e C nw dO c z b,xs=[.ref e,c]/\H e=some (cV nw e C dO)/\(∀d,dO=some d-> ∃fs,H d=some (qF d fs))/\XC K C/\Hm c=some z/\PySem.W.kitOne K (.ref C) z=some b/\Q (.bl b) H
theorem Ax {e C:Addr} {nw:Bool} {dO:Option Addr} (I:Inv X pins σ H s) (he:H e=some (cV nw e C dO)) (hd: ∀d,dO=some d-> ∃fs,H d=some (qF d fs)):Hd e C s.heap:=by
 obtain ⟨oe,vs,x1,x2,x3,x4,_⟩:=dF I.aX he
 refine ⟨oe,x1,x2,by unfold PySem.W.notCls;rw[x4],fun d q=>?_⟩
 rw[x3]at q
 obtain ⟨fs,h2⟩:=hd d q
 exact (I.aX d _ h2).Am
theorem rH (K:PySem.W.Frag) (h:X.K=K):cS X (.builtin "isinstance") (Qy K):=by
 subst h
 intro pins s σ H xs us Q I r h
 obtain ⟨e,C,nw,dO,c,z,b,rfl,he,hd,xc,hz,hk,q⟩:=h
 obtain ⟨u,w',rfl,r1,r2⟩:=vals2 r
 obtain rfl:u=Value.ref e:=r1
 cases rG hz r2
 exact PySem.W.kia_one (rE xc) I.jn (Ax I he hd) hk (fun z=>nomatch z) fun tk=>⟨.bl b,H,I.tok _,rfl,q⟩
noncomputable def v8:List V->Option (List Value)
 | []=>some []
 | v::r=>match Hm v,v8 r with
  | some z,some zs=>some (z::zs)
  | _,_=>none
theorem oH: ∀{vs:List V} {us zs:List Value},v8 vs=some zs->Vals vs us->us=zs
 | [],_,_,h, .nil=>by cases h;rfl
 | v::r,_,zs,h, .cons a b=>by
  unfold v8 at h
  split at h
  ·rename_i z zs' h1 h2
   cases h
   rw[rG h1 a,oH h2 b]
  ·cases h
def LA (K:PySem.W.Frag):List V->Hp->VK->Prop:=fun xs H Q=> ∃e C nw dO tp cs zs b,xs=[.ref e, .ref tp]/\H e=some (cV nw e C dO)/\(∀d,dO=some d-> ∃fs,H d=some (qF d fs))/\XC K C/\H tp=some (.tup cs)/\v8 cs=some zs/\PySem.W.kitAny K (.ref C) zs=some b/\Q (.bl b) H
theorem oI (K:PySem.W.Frag) (h:X.K=K):cS X (.builtin "isinstance") (LA K):=by
 subst h
 intro pins s σ H xs us Q I r h
 obtain ⟨e,C,nw,dO,tp,cs,zs,b,rfl,he,hd,xc,ht,hz,hk,q⟩:=h
 obtain ⟨u,w',rfl,r1,r2⟩:=vals2 r
 obtain rfl:u=Value.ref e:=r1
 obtain rfl:w'=Value.ref tp:=r2
 obtain ⟨_,aL,rv,ob,o1,o2,n,o3⟩:=(show bG X.prog X.w H s.heap tp (.tup cs) from I.aX tp _ ht)
 have:=oH hz rv
 subst this
 obtain ⟨a1,a2,a3,a4⟩:=ob
 cases (show a1=_ from o2)
 cases (show a3=_ from o3)
 exact PySem.W.kia_tup (rE xc) I.jn (Ax I he hd) o1 hk (fun z=>nomatch z) fun tk=>⟨.bl b,H,I.tok _,rfl,q⟩
end
end L2
set_option maxHeartbeats 4000000
namespace L2
open PySem PySem.Spec PyProof.Rows XL
noncomputable abbrev rJ (X:Cx) (pn:List (Addr×Obj)) (W:Value->Shared->Prop):Cx:={ X with pn:=X.pn++pn,xe:=W }
noncomputable abbrev uG (X:Cx) (ev:Value):Cx:={ X with A:=X.A.mark (some ev),calm:=false,xe:=fun _ _=>False }
section
variable {X:Cx} {pins pn:List (Addr×Obj)} {σ:St} {H:Hp} {s:Shared} {W:Value->Shared->Prop} {ev:Value}
theorem Inv.LB (I:Inv X pins σ H s):Inv (rJ X pins W) [] σ H s:=
 ⟨⟨I.ok.mod,I.ok.kind,I.ok.glob,I.ok.blt,I.ok.above,I.ok.inj,I.ok.has,I.ok.EB,I.ok.hd,I.ok.frames,I.ok.EC,I.ok.Kb,I.ok.bs,I.ok.yY,I.ok.qL,I.ok.tV,I.ok.jm,I.ok.B6⟩,I.os,I.bare,I.base,I.loc,I.cell,I.free,I.dw,fun p hp=>I.pin p (by simpa using hp),I.aX,I.len⟩
theorem Inv.oJ (I:Inv (rJ X pn W) pins σ H s):Inv X pn σ H s:=
 ⟨⟨I.ok.mod,I.ok.kind,I.ok.glob,I.ok.blt,I.ok.above,I.ok.inj,I.ok.has,I.ok.EB,I.ok.hd,I.ok.frames,I.ok.EC,I.ok.Kb,I.ok.bs,I.ok.yY,I.ok.qL,I.ok.tV,I.ok.jm,I.ok.B6⟩,I.os,I.bare,I.base,I.loc,I.cell,I.free,I.dw,fun p hp=>I.pin p (List.mem_append_left _ hp),I.aX,I.len⟩
theorem Inv.LC (I:Inv X pins σ H s):Inv (uG X ev) pins σ H s:=
 ⟨⟨I.ok.mod,I.ok.kind,I.ok.glob,I.ok.blt,I.ok.above,I.ok.inj,I.ok.has,I.ok.EB,(fun z=>by cases z),I.ok.frames,I.ok.EC,I.ok.Kb,I.ok.bs,I.ok.yY,I.ok.qL,I.ok.tV,I.ok.jm,I.ok.B6⟩,I.os,I.bare,I.base,I.loc,I.cell,I.free,I.dw,I.pin,I.aX,I.len⟩
theorem Inv.Qz (ok:X.Ok) (I:Inv (uG X ev) pins σ H s):Inv X pins σ H s:=⟨ok,I.os,I.bare,I.base,I.loc,I.cell,I.free,I.dw,I.pin,I.aX,I.len⟩
theorem Inv.unbind {i:Nat} {x:Str} {M:Model} {A:Around} {E:Value->Shared->Prop} {Q:Unit->Shared->Prop} {v:V} (I:Inv X pins σ H s) (hN:X.N.Nodup) (hi:X.N[i]? =some x) (hx:X.env.kindOf x=some .local) (hv:σ[i]? =some (some v))
  (h: ∀s',Inv X pins (σ.set i none) H s'->Q () s'):wpAny M A (unbindName X.env x) Q E s:=by
 obtain ⟨m,hn,hl⟩:=id I.loc
 have tW:(X.env.scope.kind== .class||(X.env.scope.kind== .module&&X.env.locals != X.env.globals))=false:=by rw[I.ok.kind];rfl
 obtain ⟨u,_,hu⟩:=hl i x v hi hv (.inl hx)
 have mu:m x=some u:=by
  rcases hu with ⟨_,z⟩ | ⟨z,_⟩
  ·exact z
  ·rcases z with z | z<;>(rw[hx]at z;cases z)
 obtain ⟨oL,esL,epL,U0,dL,rL⟩:=id hn
 refine wpAny_unbindName_local hx hn mu tW fun h' w Pg hs=>h _ ?_
 have ED: ∀b o,X.s₀.heap.get? b=some o->b≠X.env.locals:=fun b o e=>Nat.ne_of_lt (Nat.lt_of_lt_of_le (Heap.lt_size e) I.ok.above)
 refine ⟨I.ok,I.os,I.bare,⟨fun b o e n hb Aq=>(hs.2 b (ED b o e)).trans (I.base.keep b o e n hb Aq),fun b o e n hb Aq=>?_,I.base.free,fun b o e Aq=>?_,I.base.jl,I.base.i8,I.base.jH⟩,⟨_,Pg,fun j y v' e1 e2 e3=>?_⟩,fun y c e=>?_,I.free,I.dw,fun p hp=>?_,fun b ob e=>?_,by simpa using I.len⟩
 ·obtain ⟨sl,e1⟩:=I.base.slot b o e n hb Aq
  exact ⟨sl,(hs.2 b (ED b o e)).trans e1⟩
 ·obtain ⟨o',e1⟩:=I.base.there b o e Aq
  exact ⟨o',(hs.2 b (ED b o e)).trans e1⟩
 ·have ji:j≠i:=fun z=>by
   rw[z]at e2
   by_cases eK:i<σ.length
   ·rw[List.getElem?_set_self eK]at e2;cases e2
   ·rw[List.getElem?_eq_none (by simpa using eK)]at e2;cases e2
  rw[List.getElem?_set_ne (Ne.symm ji)]at e2
  obtain ⟨u',r',q⟩:=hl j y v' e1 e2 e3
  refine ⟨u',r',?_⟩
  rcases q with ⟨k,e⟩ | ⟨k,c,e,z⟩
  ·refine .inl ⟨k,?_⟩
   have ne:y≠x:=fun z=>ji (lQ hN e1 (z▸hi))
   show (if y=x then w else m y)=some u'
   rw[if_neg ne];exact e
  ·exact .inr ⟨k,c,e,z.sameBut hs (I.Cu y c e)⟩
 ·obtain ⟨v',z⟩:=I.cell y c e
  exact ⟨v',z.sameBut hs (I.Cu y c e)⟩
 ·obtain ⟨e,n,ne,nf,d⟩:=I.pin p hp
  exact ⟨(hs.2 p.1 ne).trans e,n,ne,nf,d⟩
 ·refine (I.aX b ob e).lA (fun c w' hc q=>(hs.2 c ?_).trans q) (fun _ q=>q) fun _ _ q=>q
  rintro rfl
  rcases hc with rfl | hc
  ·rw[I.free]at e;cases e
  ·rw[I.free]at hc;cases hc
end
def Hn (K:PySem.W.Frag) (M:Addr) (n:Nat) (th:TS) (D:Ends):St->XK:=fun σ c dO H'=> ∃C,c= .ref C/\PySem.W.mroIn K C (.ref M)=some true/\(∀d,dO=some d-> ∃fs,H' d=some (qF d fs))/\
 ∀e,H' e=none->th { nx:=fun σ' Ay=>D.nx (σ'.set n none) Ay,rt:=D.rt,bk:=fun σ' Ay=>D.bk (σ'.set n none) Ay,ct:=fun σ' Ay=>D.ct (σ'.set n none) Ay } (σ.set n (some (.ref e))) (upd H' e (cV false e C dO))
def QA (K:PySem.W.Frag) (M:Addr) (n:Nat) (tb:(St->XK)->TS) (th:TS):TS:=fun D σ H=>tb (Hn K M n th D) D σ H
section
variable {X:Cx} {M:Addr} {n:Nat} {mx nm:Str} {body v9:List Stmt} {b₀:Stmt} {tb:(St->XK)->TS} {th:TS} {pos Az mp:Pos} {pins:List (Addr×Obj)} {σ:St} {H:Hp} {s:Shared} {D:Ends}
theorem Dp {e C:Addr} {dO:Option Addr} {f:Flow} (ok:X.Ok) (hN:X.N.Nodup) (Dq:X.N[n]? =some nm) (p_:X.env.kindOf nm=some .local)
  (h:SP (uG X (.ref e)) pins { nx:=fun σ' Ay=>D.nx (σ'.set n none) Ay,rt:=D.rt,bk:=fun σ' Ay=>D.bk (σ'.set n none) Ay,ct:=fun σ' Ay=>D.ct (σ'.set n none) Ay } f s):
  wpAny (model X.prog X.w) X.A (do bindName X.env nm .none;unbindBehindTheSuite X.env nm Az) (fun _ s₅=>SP X pins D f s₅) X.xe s:=by
 have go: ∀{σ':St} {H':Hp} {Q:Unit->Shared->Prop},Inv (uG X (.ref e)) pins σ' H' s->(∀s',Inv X pins (σ'.set n none) H' s'->Q () s')->wpAny (model X.prog X.w) X.A (do bindName X.env nm .none;unbindBehindTheSuite X.env nm Az) Q X.xe s:=fun {σ' H' Q} J k=>by
  have I5:=J.Qz ok
  have eK:n<σ'.length:=by rw[I5.len];exact (List.getElem?_eq_some_iff.mp Dq).1
  refine wpAny_bind (wpAny_bindName (fv I5 hN Dq (.inl p_) (v:= .bY) rfl (fun s6 I6=>?_) (.inr p_)))
  unfold unbindBehindTheSuite
  refine wpAny_onRaise (I6.unbind hN Dq p_ (v:= .bY) (List.getElem?_set_self eK) fun s7 I7=>?_)
  rw[List.set_set]at I7
  exact k s7 I7
 cases f with
 | next=>obtain ⟨σ',H',J,q⟩:=h;exact go J fun s' I'=>⟨_,H',I',q⟩
 | brk=>obtain ⟨σ',H',J,q⟩:=h;exact go J fun s' I'=>⟨_,H',I',q⟩
 | cont=>obtain ⟨σ',H',J,q⟩:=h;exact go J fun s' I'=>⟨_,H',I',q⟩
 | ret u=>obtain ⟨v,σ',H',J,r,q⟩:=h;exact go J fun s' I'=>⟨v,_,H',I',r,q⟩
theorem mz {e C T:Addr} {dO:Option Addr} (cm:XC X.K M) (hg:Gl X mx) (hm:X.mg mx=some (.ref M)) (hN:X.N.Nodup) (Dq:X.N[n]? =some nm) (p_:X.env.kindOf nm=some .local) (hh: ∀ev,qM (uG X ev) (b₀::v9) th)
  (I:Inv X pins σ H s) (c:XC X.K C) (tb:Tb s.heap e C dO T .none) (e0:X.s₀.heap.get? e=none) (T0:X.s₀.heap.get? T=none) (pe: ∀p∈X.pn++pins,p.1≠e) (pT: ∀p∈X.pn++pins,p.1≠T) (He:H e=none) (HT:H T=none) (q:Hn X.K M n th D σ (.ref C) dO H)
  (nu:(mx==("__debug__":Str))=false):wpAny (model X.prog X.w) X.A (handleBy (.ref e) X.env [.ExceptHandler (some (.Name mx mp)) (some nm) (b₀::v9) Az]) (SP X pins D) X.xe s:=by
 obtain ⟨C',ec,hs,hd,q⟩:=q
 cases ec
 have q:=q e He
 refine wpAny_handleBy_cons (codeAny_handlers_test ?_) (by intro q;cases q)
 refine iI (X:=uG X (.ref e)) I.LC hg hm ?_ nu
 have K1:=I.jn
 have id:=tb
 obtain ⟨oe,vs,oT,ts,t1,t2,t3,t4,t5,t6,t7,t8,t9⟩:=id
 have X6:Hd e C s.heap:=⟨oe,t1,t2,by unfold PySem.W.notCls;rw[t4],fun d z=>by
  rw[t3]at z
  obtain ⟨fs,y⟩:=hd d z
  exact (I.aX d _ y).Am⟩
 have ED:e≠X.env.locals:=fun z=>by
  obtain ⟨m,⟨ol,es,ep,y,yd,_⟩,_⟩:=I.loc
  rw[<-z,t1]at y
  cases y
  rw[t4]at yd;cases yd
 have X7: ∀x cc,X.env.cells.lookup x=some cc->cc≠e:=fun x cc y z=>by
  obtain ⟨v,oc,y1,y2⟩:=I.cell x cc y
  rw[z,t1]at y1
  cases y1
  rw[t4]at y2;cases y2
 have I0:Inv X pins σ H s:=I
 obtain ⟨h0,gg,dd,tt,oo⟩:=s
 refine xD K1 c cm hs X6 ?_
 refine codeAny_handlers_suite_as ?_
 refine pZ (S:=jE X.stack) tb fun h1 X8 k1=>?_
 have I1:=I0.Ap k1 (fun b hb=>by
  have z:b=T:=List.mem_singleton.mp hb
  rw[z]
  refine ⟨T0,fun o y=>⟨ts,?_⟩,pT,HT⟩
  rw[t7]at y
  cases y
  exact t8)
 obtain ⟨X9,X_,_,_,u1,u2,u3,u4,_⟩:=X8
 have I2:=I1.E5 (a:=e) (o:=cV false e C dO) He e0 ED X7 pe (lM ⟨X9,X_,u1,u2,u3,u4,fun z=>nomatch z⟩)
 refine fv I2 hN Dq (.inl p_) (v:= .ref e) rfl (fun s4 I4=>?_) (.inr p_)
 refine wpAny_mono (hh (.ref e) pins s4 _ _ _ I4.LC q) (fun f s5 sp=>?_) fun _ _ z=>z.elim
 exact Dp (C:=C) (dO:=dO) I0.ok hN Dq p_ sp
theorem Ho (cm:XC X.K M) (hg:Gl X mx) (hm:X.mg mx=some (.ref M)) (hN:X.N.Nodup) (Dq:X.N[n]? =some nm) (p_:X.env.kindOf nm=some .local) (AA:X.stack=X.env::X.outer) (LD:X.env.frame=some X.env.locals) (Dr:X.ex=[])
  (hb: ∀pn W E,Throws (rJ X pn W) E->v5 (Lv X.prog X.w X.K) (rJ X pn W) E->qM (rJ X pn W) body (tb E)) (hh: ∀ev,qM (uG X ev) (b₀::v9) th) (nu:(mx==("__debug__":Str))=false:=by decide):
  PS X (.Try body [.ExceptHandler (some (.Name mx mp)) (some nm) (b₀::v9) Az] [] [] pos) (QA X.K M n tb th):=by
 intro pins s σ H D I h
 refine wpAny_Try_except ?_
 have frames:X.A.frames=some (X.env::X.outer):=by rw[<-AA];exact I.ok.frames
 refine wpAny_mono (hb pins _ (Hn X.K M n th D) ?_ ?_ [] s σ H D I.LB h) (fun f s1 q=>?_) fun e s1 z=>z
 ·intro nK σ' H1 s1 e C dO J he h0 c q
  have I1:=J.oJ
  obtain ⟨oe,vs,x1,x2,x3,x4,x5⟩:=dF I1.aX he
  have Hq:s1.heap.FunFrames X.base (X.env::X.outer):=by rw[<-AA];exact I1.stack
  have e0:X.s₀.heap.get? e=none:=by
   cases z:X.s₀.heap.get? e with
   | none=>rfl
   | some o=>
    have:=I1.base.free e o z h0 (by rw[Dr];simp)
    rw[he]at this;cases this
  have pe: ∀p∈X.pn++pins,p.1≠e:=fun p hp z=>by
   have:=(I1.pin p hp).2.1
   rw[z,he]at this;cases this
  show wpAny _ _ (noteFrame (.ref e) X.env) _ _ s1
  refine vZ (base:=X.base) (L:=X.env.locals) frames Hq LD ⟨oe,vs,x1,x2,x3,x4,(x5 rfl).1⟩ fun h1 T hT tb k1=>?_
  refine pZ (S:=jE X.stack) tb fun h2 Lw k2=>?_
  have NY:Kept (jE X.stack) [e] s1.heap h1:=by rw[AA];exact k1
  have T0:X.s₀.heap.get? T=none:=by
   cases z:X.s₀.heap.get? T with
   | none=>rfl
   | some o=>
    obtain ⟨o',z'⟩:=I1.base.there T o z (by rw[Dr];simp)
    rw[hT]at z';cases z'
  have pT: ∀p∈X.pn++pins,p.1≠T:=fun p hp z=>by
   have:=(I1.pin p hp).1
   rw[z,hT]at this;cases this
  have nT:H1 T=none:=I1.aX.none_of hT
  have I2:=(I1.Dl ⟨_,he⟩).Ap (NY.trans k2) (fun b LG=>by
   simp only[List.cons_append,List.nil_append,List.mem_cons,List.not_mem_nil,or_false]at LG
   rcases LG with z | z
   ·rw[z]
    refine ⟨e0,fun o y=>⟨vs,?_⟩,pe,il⟩
    rw[x1]at y;cases y;exact x4
   ·rw[z]
    refine ⟨T0,fun o y=>?_,pT,dE nT⟩
    rw[hT]at y;cases y)
  exact mz cm hg hm hN Dq p_ hh I2 c Lw e0 T0 pe pT il (dE nT) q nu
 ·intro nK σ' H1 s1 ev s2 J K8
  have I1:=J.oJ
  obtain ⟨e,C,dO,T1,H2,rfl,c,os,bare,un,aX,n1,n2,n3,n4,Vr,q⟩:=K8
  have I2:=I1.EG os un aX bare (fun b z=>absurd z (by simp))
  have Hr:s2.heap.FunFrames X.base (X.env::X.outer):=by rw[<-AA];exact I2.stack
  have old: ∀{b},s1.heap.get? b=none->X.s₀.heap.get? b=none:=fun {b} y=>by
   cases z:X.s₀.heap.get? b with
   | none=>rfl
   | some o=>
    obtain ⟨o',z'⟩:=I1.base.there b o z (by rw[Dr];simp)
    rw[y]at z';cases z'
  have Hs: ∀{b},s1.heap.get? b=none-> ∀p∈X.pn++pins,p.1≠b:=fun {b} y p hp z=>by
   have:=(I1.pin p hp).1
   rw[z,y]at this;cases this
  have QB:=Vr
  obtain ⟨oe,vs,oT1,ts,x1,x2,x3,x4,x5,x6,x7,x8,x9⟩:=Vr
  show wpAny _ _ (noteFrame (.ref e) X.env) _ _ s2
  refine Di (base:=X.base) (L:=X.env.locals) frames Hr LD QB fun h1 T hT tb k1=>?_
  refine pZ (S:=jE X.stack) tb fun h2 Lw k2=>?_
  have NY:Kept (jE X.stack) [T1,e] s2.heap h1:=by rw[AA];exact k1
  have T0:X.s₀.heap.get? T=none:=by
   cases z:X.s₀.heap.get? T with
   | none=>rfl
   | some o=>
    obtain ⟨o',z'⟩:=I2.base.there T o z (by rw[Dr];simp)
    rw[hT]at z';cases z'
  have pT: ∀p∈X.pn++pins,p.1≠T:=fun p hp z=>by
   have:=(I2.pin p hp).1
   rw[z,hT]at this;cases this
  have nT:H2 T=none:=I2.aX.none_of hT
  have I3:=I2.Ap (NY.trans k2) (fun b LG=>by
   simp only[List.cons_append,List.nil_append,List.mem_cons,List.not_mem_nil,or_false]at LG
   rcases LG with z | z | z
   ·rw[z]
    refine ⟨old n2,fun o y=>⟨ts,?_⟩,Hs n2,n4⟩
    rw[x7]at y;cases y;exact x8
   ·rw[z]
    refine ⟨old n1,fun o y=>⟨vs,?_⟩,Hs n1,n3⟩
    rw[x1]at y;cases y;exact x4
   ·rw[z]
    refine ⟨T0,fun o y=>?_,pT,nT⟩
    rw[hT]at y;cases y)
  exact mz cm hg hm hN Dq p_ hh I3 c Lw (old n1) T0 (Hs n1) pT n3 nT q nu
 ·cases f with
  | next=>obtain ⟨σ',H',J,q⟩:=q;exact wpAny_execs_nil ⟨σ',H',J.oJ,q⟩
  | brk=>obtain ⟨σ',H',J,q⟩:=q;exact ⟨σ',H',J.oJ,q⟩
  | cont=>obtain ⟨σ',H',J,q⟩:=q;exact ⟨σ',H',J.oJ,q⟩
  | ret u=>obtain ⟨v,σ',H',J,r,q⟩:=q;exact ⟨v,σ',H',J.oJ,r,q⟩
end
end L2
set_option maxHeartbeats 4000000
namespace L2
open PySem PySem.Spec PyProof.Rows XL
noncomputable def Ya (s:Stmt) (j:Nat):Stmt:=match s with
 | .ClassDef _ _ _ b _ _ _ _ _ _ _=>b.getD j (.Pass ⟨0,0,0,0⟩)
 | _=> .Pass ⟨0,0,0,0⟩
def v_ (C:Addr) (f:Str):Sp:=fun vs H Q _=> ∃e v,vs=[.ref e,v]/\H e=some (cV true e C none)/\ ∀d,H d=none->d≠e->Q .bY (upd (upd H e (cV true e C (some d))) d (qF d [(f,v)]))
theorem Ht {C:Addr} {f:Str} {vs:List V} {H:Hp} {Q:VK} {E:XK} (h:v_ C f vs H Q E):vs.length=2:=by obtain ⟨_,_,rfl,_⟩:=h;rfl
structure Made (H H':Hp) (e d:Addr) (C:Addr) (fs:List (Str×V)):Prop where
 ne:H e=none
 nd:H d=none
 ap:d≠e
 at_:H' e=some (cV true e C (some d))
 di:H' d=some (qF d fs)
 old: ∀b,b≠e->b≠d->H' b=H b
theorem Made.same {H H':Hp} {e d C:Addr} {fs:List (Str×V)} (m:Made H H' e d C fs):ai H H':=fun b o q=>by
 rw[m.old b (fun z=>by rw[z,m.ne]at q;cases q) (fun z=>by rw[z,m.nd]at q;cases q)];exact q
theorem Made.gone {H H':Hp} {e d C:Addr} {fs:List (Str×V)} (m:Made H H' e d C fs):ai H (tN H' e)/\tN H' e d=some (qF d fs):=by
 refine ⟨fun b o q=>?_,?_⟩
 ·rw[ip (fun z=>by rw[z,m.ne]at q;cases q)];exact m.same b o q
 ·rw[ip m.ap];exact m.di
theorem Ds {H:Hp} {e d C:Addr} {fs:List (Str×V)} (ne:H e=none) (nd:upd H e (cV true e C none) d=none) (ap:d≠e):
  Made H (upd (upd (upd H e (cV true e C none)) e (cV true e C (some d))) d (qF d fs)) e d C fs:=by
 rw[aj ap]at nd
 refine ⟨ne,nd,ap,?_,ae,fun b h1 h2=>?_⟩
 ·rw[aj (Ne.symm ap),ae]
 ·rw[aj h2,aj h1,aj h1]
theorem LH {H:Hp} {Q:VK} {C:Addr} {f:Str} {v:V} (h: ∀e d H',Made H H' e d C [(f,v)]->Q (.ref e) H'):[v].length<=sizeLine/\ ∀e,H e=none->v_ C f (.ref e::[v]) (upd H e (cV true e C none)) (fun u H2=>u= .bY/\Q (.ref e) H2) E0:=
 ⟨by show 1<=sizeLine;decide,fun e ne=>⟨e,v,rfl,ae,fun d nd ap=>⟨rfl,h e d _ (Ds ne nd ap)⟩⟩⟩
theorem kC {K:PySem.W.Frag} {t:Value}: ∀{zs:List Value},(∀z∈zs,PySem.W.kitOne K t z=some false)->PySem.W.kitAny K t zs=some false
 | [],_=>rfl
 | z::zs,h=>by
  unfold PySem.W.kitAny
  rw[h z List.mem_cons_self]
  exact kC fun y hy=>h y (List.mem_cons_of_mem _ hy)
theorem Dt:bootBuiltins "ValueError"=some (.type "ValueError"):=PyProof.Rows.Boot.«ValueError»
end L2
set_option maxHeartbeats 4000000
namespace L2
open PySem PySem.Spec PyProof.Rows XL
theorem ai.none_ {H H':Hp} {p:Addr} (s:ai H H') (n:H' p=none):H p=none:=by
 cases q:H p with
 | none=>rfl
 | some o=>rw[s p o q]at n;cases n
theorem AB {K:PySem.W.Frag} {H0 H:Hp} {E:XK} {C:Addr} {f:Str} {v:V} (xc:XC K C) (h0:ai H0 H) (h: ∀d H',H' d=some (qF d [(f,v)])->ai H H'->E (.ref C) (some d) H'):
  [v].length<=sizeLine/\ ∀e,H e=none->v_ C f (.ref e::[v]) (upd H e (cV true e C none)) (fun u H2=>u= .bY/\ ∃e' C' dO,V.ref e= .ref e'/\H2 e'=some (cV true e' C' dO)/\H0 e'=none/\XC K C'/\E (.ref C') dO (tN H2 e')) E0:=
 LH (Q:=fun v H1=> ∃e' C' dO,v= .ref e'/\H1 e'=some (cV true e' C' dO)/\H0 e'=none/\XC K C'/\E (.ref C') dO (tN H1 e')) fun e d H' m=>⟨e,C,some d,rfl,m.at_,h0.none_ m.ne,xc,h d _ m.gone.2 m.gone.1⟩
theorem AD {X:Cx} (K:PySem.W.Frag) (h:X.K=K) {o:Expr} {g:Str} {pos:Pos} {ta:TE} (ha:PE X o ta) (hb:attributeBase o g X.env (eval o X.env)=eval o X.env):PE X (.Attribute o g pos) (E8 K ta g):=by subst h;exact Dn ha hb
theorem xE {X:Cx} {e:Expr} {te:TE} {pos:Pos} {E:St->XK} (K:PySem.W.Frag) (H0:Hp) (hK:X.K=K) (hH:X.H₀=H0) (hh:X.A.handled=none) (th:Throws X E) (hx:PE X e te):PS X (.Raise (some e) none pos) (As K H0 E te):=by
 subst hK hH
 exact Au hh th hx
end L2
namespace PySem
end PySem
namespace L2
open PySem PySem.Spec PyProof.Rows
structure Vs (P:Program) (w:World) (K:PySem.W.Frag) (mg:Str->Option Value) (base:Heap) (k:Nat) (f:Addr) (fd:FuncData) (ps:List Str) (sp:Sp) (pre:List Value->Shared->Prop) (post:Shared->Prop):Prop where
 len: ∀vs H Q E,sp vs H Q E->vs.length=ps.length
 run: ∀(A:Around) (outer:List Env) (s:Shared) (H:Hp) (args:Args) (us:List Value) (vs:List V) (Q:VK) (E:XK),dA k A->qO P w K mg base A outer s H->BindsTo s fd args (ps.zip us)->Vals vs us->pre us s->sp vs H Q E->
  codeAny (model P w) A (.call (.ref f) args) (fun r s'=>CR iK outer P w H s Q E r s'/\post s') s
section
variable {P:Program} {w:World} {K:PySem.W.Frag} {mg:Str->Option Value} {base:Heap}
end
end L2
namespace L2
open PySem PySem.Spec PyProof.Rows
end L2
namespace L2
open PySem PySem.Spec PyProof.Rows
section
variable {X:Cx}
end
end L2
namespace L2
open PySem PySem.Spec PyProof.Rows
structure Vt (P:Program) (w:World) (K:PySem.W.Frag) (tg:Expr) (J:It) (fp:List Addr) (it:Addr) (tn:Nat->Heap->Prop):Prop extends Turn P w K tg J fp it tn where
 Vu: ∀(X:Cx),X.prog=P->X.w=w->X.K=K->X.calm=true-> ∀(i:Nat) (pins:List (Addr×Obj)) (s:Shared) (σ:St) (H:Hp) (E:Value->Shared->Prop),Inv X pins σ H s->(∀b∈fp,km X pins H b)->tn i s.heap->J.go i H->
  wpAny (model P w) X.A (pyNext (.ref it)) (fun r s1=> ∃u,r=some u/\(∃z,u= .str z s.toks)/\s1.toks=s.toks+1/\
   wpAny (model P w) X.A (letOwnedTupleGo tg (.ref it) u) (fun _ s2=> ∃x H',Inv X pins σ H' s2/\RelV x u/\J.yZ i H x H'/\tn (i+1) s2.heap/\ ∀b∈fp,H' b=none) E s1) E s
end L2
namespace L2
open PySem PySem.Spec PyProof.Rows
section
variable {X:Cx}
end
end L2
set_option maxHeartbeats 1000000
namespace L2.F3
open PySem PySem.Spec PyProof.Rows
end L2.F3
namespace L2
open PySem PySem.Spec PyProof.Rows
section
variable {prog:Program} {w:World} {A:Around} {E:Value->Shared->Prop} {s:Shared}
end
section
variable {X:Cx}
end
section
variable {P:Program} {w:World} {K:PySem.W.Frag} {mg:Str->Option Value} {base:Heap}
end
end L2
namespace L2
open PySem PySem.Spec PyProof.Rows
section
variable {X:Cx}
noncomputable def dg (n:Nat):List Nat:=((toString (n:Int):String):Str).cps.toList
end
end L2
namespace L2
open PySem PySem.Spec PyProof.Rows
structure ZT (P:Program) (w:World) (K:PySem.W.Frag) (fp:List Addr) (it:Addr) (Sq:Hp->List V->Prop) (IT:Nat->Heap->Prop):Prop where
 obj: ∀i h,IT i h-> ∃o,h.get? it=some o/\ ∀v,o.data≠ .cell v
 keep: ∀i h h',IT i h->(∀o,h.get? it=some o->h'.get? it=some o)->IT i h'
 inj: ∀(X:Cx),X.K=K-> ∀(pins:List (Addr×Obj)) (s:Shared) (σ:St) (H:Hp),Inv X pins σ H s-> ∀xs ys,Sq H xs->Sq H ys->xs=ys
 draws: ∀(X:Cx),X.prog=P->X.w=w->X.K=K->X.calm=true-> ∀(pins:List (Addr×Obj)) (s:Shared) (σ:St) (H:Hp),Inv X pins σ H s-> ∀xs,Sq H xs->
  ∃(PP:Nat->Value->Prop) (SS:Nat->Heap->Prop),(∀i x v,xs[i]? =some x->PP i v->RelV x v)/\Draws P w X.A.in1 it fp xs.length PP SS/\(∀i,IT i s.heap->SS i s.heap)/\ ∀i h,SS i h->IT i h
theorem ZS.zt {P:Program} {w:World} {K:PySem.W.Frag} {a it:Addr} {Sq:Hp->List V->Prop} {IT:Nat->Heap->Prop} (Z:ZS P w K a it Sq IT) (ne:a≠it):ZT P w K [it,a] it Sq IT where
 obj:=Z.obj
 keep:=Z.keep
 inj:=Z.inj
 draws:=fun X hP hw hK hc pins s σ H I xs hq=>by
  obtain ⟨aL,SS,rv,D,h1,h2⟩:=Z.draws X hP hw hK hc pins s σ H I xs hq ne
  rw[<-rv.length]at D
  refine ⟨_,SS,fun i x v hx hv=>?_,D,h1,h2⟩
  obtain ⟨u,hu,ru⟩:=rv.get hx
  have:v=u:=Option.some.inj (hv.symm.trans hu)
  rw[this];exact ru
theorem Hu {P:Program} {w:World} {K:PySem.W.Frag} (it:Addr) (l:List Nat) (t:Tok):ZT P w K [it] it (fun _ xs=>xs=bO l) (fun i h=>h.IsStrIter it (strIterType (S l)) (S l) t i) where
 obj:=fun i h st=>by
  obtain ⟨o,ho,hc,hd⟩:=st
  exact ⟨o,ho,fun v z=>by rw[hd]at z;cases z⟩
 keep:=fun i h h' st k=>by
  obtain ⟨o,ho,r⟩:=st
  exact ⟨o,k o ho,r⟩
 inj:=fun X hK pins s σ H I xs ys h1 h2=>h1.trans h2.symm
 draws:=fun X hP hw hK hc pins s σ H I xs hq=>by
  subst hP hw hK hq
  have rel: ∀i x v,(bO l)[i]? =some x->(∃(c:Nat) (u:Tok),(S l).cps[i]? =some c/\v=Value.str ⟨#[c]⟩ u)->RelV x v:=fun i x v hx hh=>by
   obtain ⟨c,u,e1,e2⟩:=hh
   obtain ⟨d,hd,rfl⟩:=dB hx
   have e3:l[i]? =some c:=by rw[<-e1];show l[i]? =l.toArray[i]?; exact (List.getElem?_toArray ..).symm
   rw[hd]at e3;cases e3
   exact ⟨u,e2⟩
  have e:(S l).cps.size=(bO l).length:=by rw[h7,aU]
  by_cases ha:(S l).cps.all (· <128)=true
  ·have et:strIterType (S l)="str_ascii_iterator":=by unfold strIterType;rw[if_pos ha]
   have D:=Draws.strAscii (prog:=X.prog) (w:=X.w) (A:=X.A.in1) (I.ok.hd hc) it (S l) t
   rw[e]at D
   exact ⟨_,_,rel,D,fun i h=>by rw[et]at h;exact h,fun i h z=>by rw[et];exact z⟩
  ·have et:strIterType (S l)="str_iterator":=by unfold strIterType;rw[if_neg ha]
   have D:=Draws.strWide (prog:=X.prog) (w:=X.w) (A:=X.A.in1) (I.ok.hd hc) it (S l) t
   rw[e]at D
   exact ⟨_,_,rel,D,fun i h=>by rw[et]at h;exact h,fun i h z=>by rw[et];exact z⟩
theorem xF {P:Program} {w:World} {K:PySem.W.Frag} {elts:List Expr} {k:Nat} {pos:Pos} {z TI TO i1 i2:Addr} {f1 f2:List Addr} {Sq1 Sq2:Hp->List V->Prop} {I1 I2:Nat->Heap->Prop}
  (W1:ZT P w K f1 i1 Sq1 I1) (W2:ZT P w K f2 i2 Sq2 I2) (Z:ZA z TI TO i1 i2 f1 f2):
  Turn P w K (.Tuple elts k pos) (E2 Sq1 Sq2) [z,TI,TO,i1,i2] z (fun i h=>IsZip h z TI TO .none/\IsPair h TI (.ref i1) (.ref i2)/\(∃a b,IsPair h TO a b)/\I1 i h/\I2 i h) where
 mem:=by simp
 obj:=fun i h st b hb=>by
  obtain ⟨q1,q2,⟨a,b',q3⟩,q4,q5⟩:=st
  simp only[List.mem_cons,List.not_mem_nil,or_false]at hb
  rcases hb with g | g | g | g | g<;>rw[g]
  ·exact ⟨_,q1,fun v z=>by cases z⟩
  ·exact ⟨_,q2,fun v z=>by cases z⟩
  ·exact ⟨_,q3,fun v z=>by cases z⟩
  ·exact W1.obj i h q4
  ·exact W2.obj i h q5
 keep:=fun i h h' st kp=>by
  obtain ⟨q1,q2,⟨a,b',q3⟩,q4,q5⟩:=st
  exact ⟨kp z (by simp) _ q1,kp TI (by simp) _ q2,⟨a,b',kp TO (by simp) _ q3⟩,W1.keep _ _ _ q4 fun o e=>kp i1 (by simp) o e,W2.keep _ _ _ q5 fun o e=>kp i2 (by simp) o e⟩
 item:=by
  intro X hP hw hK hc i pins s σ H E I hf st hg
  obtain ⟨q1,q2,⟨a,b',q3⟩,q4,q5⟩:=st
  obtain ⟨xs,ys,x,y,hx,hy,gx,gy⟩:=hg
  obtain ⟨PX,SX,rx,DX,ux,vx⟩:=W1.draws X hP hw hK hc pins s σ H I xs hx
  obtain ⟨PY,SY,ry,DY,uy,vy⟩:=W2.draws X hP hw hK hc pins s σ H I ys hy
  have Qt:=W1.inj X hK pins s σ H I
  have Qu:=W2.inj X hK pins s σ H I
  subst hP hw hK
  refine my DX DY Z q1 q2 q3 (ux i q4) (uy i q5) (List.getElem?_eq_some_iff.mp gx).1 (List.getElem?_eq_some_iff.mp gy).1 fun x2 y2 h' tk p1 p2 e1 e2 e3 e4 e5 e6 e7=>⟨_,rfl,?_⟩
  have ru:=rx i x x2 gx p1
  have Qs:=ry i y y2 gy p2
  have lt: ∀{c o},s.heap.get? c=some o->s.heap.objs.size≠c:=fun e=>Nat.ne_of_gt (Heap.lt_size e)
  obtain ⟨o1,g1⟩:=DX.live _ _ (ux i q4)
  obtain ⟨o2,g2⟩:=DY.live _ _ (uy i q5)
  have zc:s.heap.objs.size∉[z,TI,TO,i1,i2]:=by
   simp only[List.mem_cons,List.not_mem_nil,or_false,not_or]
   exact ⟨lt q1,lt q2,lt q3,lt g1,lt g2⟩
  refine wpAny_letOwnedTupleGo_zip e1 fun h2 z2 sb=>?_
  have kk: ∀b o,b∉[z,TI,TO,i1,i2]->s.heap.get? b=some o->h2.get? b=some o:=fun b o hb e=>by
   simp only[List.mem_cons,List.not_mem_nil,or_false,not_or]at hb
   exact sb.extBut _ _ hb.1 (e7 b o hb.1 hb.2.2.1 hb.2.2.2.1 hb.2.2.2.2 e)
  have jW:h2.IsTuple s.heap.objs.size #[x2,y2]:=⟨_,sb.extBut _ _ (lt q1) e5,rfl,_,rfl⟩
  refine ⟨.ref s.heap.objs.size,upd H s.heap.objs.size (.tup [x,y]),?_,rfl,⟨s.heap.objs.size,x,y,fun zs G5=>by rw[Qt zs xs G5 hx];exact gx,fun zs G5=>by rw[Qu zs ys G5 hy];exact gy,rfl,I.aX.fresh (Nat.le_refl _),rfl⟩,
   ⟨z2,sb.extBut _ _ Z.tz (e7 _ _ Z.tz Z.tt Z.t1 Z.t2 q2),⟨_,_,sb.extBut _ _ Z.oz e2⟩,vx _ _ (DX.frame _ _ _ e3 fun c hc o e=>sb.extBut _ _ (nm hc Z.z1) e),vy _ _ (DY.frame _ _ _ e4 fun c hc o e=>sb.extBut _ _ (nm hc Z.z2) e)⟩,fun b hb=>?_⟩
  ·refine I.ic (t':=tk) (h':=h2) kk hf (Nat.le_refl _) ?_
   exact ⟨by show 2<=sizeLine;decide,[x2,y2], .cons ru (.cons Qs .nil),jW⟩
  ·rw[aj (fun q:b=s.heap.objs.size=>zc (q▸hb))];exact (hf b hb).1
 done:=by
  intro X hP hw hK hc i pins s σ H E I hf st hg
  obtain ⟨q1,q2,⟨a,b',q3⟩,q4,q5⟩:=st
  obtain ⟨xs,hx,⟨ys,hy⟩,el⟩:=hg
  obtain ⟨PX,SX,rx,DX,ux,vx⟩:=W1.draws X hP hw hK hc pins s σ H I xs hx
  subst hP hw hK
  subst el
  refine oG DX Z q1 q2 q3 (ux _ q4) fun h' hk=>⟨rfl,I.jV (t':=s.toks) (ch:=[z,TI,TO,i1,i2]) (fun b o hb e=>?_) hf⟩
  simp only[List.mem_cons,List.not_mem_nil,or_false,not_or]at hb
  exact hk b o hb.1 hb.2.2.1 hb.2.2.2.1 hb.2.2.2.2 e
 self:=fun _ _ s _ _ st h=>wpAny_pyIter_zip st.1 h
noncomputable abbrev N0 (h:Heap) (x:Str) (t:Tok):Heap:=h.push { cls:= .type (strIterType x),data:= .fields #[.str x t, .int 0 0] }
noncomputable abbrev N_ (h:Heap) (x:Str) (t:Tok) (m:Addr):Heap:=JD (N0 h x t) "tuple_iterator" m
noncomputable abbrev Oa (h:Heap) (x:Str) (t:Tok) (m:Addr):Heap:=(N_ h x t m).push { cls:= .type "tuple",data:= .seq #[.ref h.objs.size, .ref (N0 h x t).objs.size] }
noncomputable abbrev Ob (h:Heap) (x:Str) (t:Tok) (m:Addr):Heap:=(Oa h x t m).push { cls:= .type "tuple",data:= .seq #[.none, .none] }
noncomputable abbrev JF (h:Heap) (x:Str) (t:Tok) (m:Addr):Heap:=(Ob h x t m).push { cls:= .type "zip",data:= .fields #[.none, .bool false, .bool false, .ref (N_ h x t m).objs.size, .ref (Oa h x t m).objs.size] }
set_option maxHeartbeats 4000000 in
theorem rK (x:Str) (t:Tok) (m:Addr) (ys:Array Value):Meets (Builtin.«zip.__new__» ⟨[.type "zip", .str x t, .ref m],[]⟩) (fun _ R s=>s.heap.IsTuple m ys/\R (.ok (.ret (.ref (Ob s.heap x t m).objs.size))) { s with heap:=JF s.heap x t m }):=
 .of_wp fun prog w A R s h=>by
  obtain ⟨hp,g,d,tk,os⟩:=s;obtain ⟨q2,h⟩:=h;have CY:=sub_zip
  have k2:Heap.IsTuple (Shared.heap ⟨hp.push { cls:= .type (strIterType x),data:= .fields #[.str x t, .int 0 0] },g,d,tk,os⟩) m ys:=by
   obtain ⟨o,e,r⟩:=q2
   exact ⟨o,Heap.get?_push_of_some _ e,r⟩
  have k1: ∀{A':Around} {E':Value->Shared->Prop} {Q':Value->Shared->Prop},Q' (.ref hp.objs.size) ⟨hp.push { cls:= .type (strIterType x),data:= .fields #[.str x t, .int 0 0] },g,d,tk,os⟩->wpAny (model prog w) A' (pyIter (.str x t)) Q' E' ⟨hp,g,d,tk,os⟩:=fun h=>wpAny_pyIter_strU (s:=⟨hp,g,d,tk,os⟩) h
  wp_walk using k1,wpAny_pyIter_tuple k2
  exact ⟨_,rfl,h⟩
theorem Hv (x:Str) (t:Tok) (m:Addr) (ys:Array Value) {prog:Program} {w:World} {A:Around} {E:Value->Shared->Prop} {s:Shared} {Q:Value->Shared->Prop} (p2:s.heap.IsTuple m ys)
  (h: ∀h',IsZip h' (s.heap.objs.size+4) (s.heap.objs.size+2) (s.heap.objs.size+3) .none->IsPair h' (s.heap.objs.size+2) (.ref s.heap.objs.size) (.ref (s.heap.objs.size+1))->
   IsPair h' (s.heap.objs.size+3) .none .none->h'.get? s.heap.objs.size=some { cls:= .type (strIterType x),data:= .fields #[.str x t, .int 0 0] }->h'.get? (s.heap.objs.size+1)=some { cls:= .type "tuple_iterator",data:= .fields #[.ref m, .int 0 0] }->
   (∀b o,s.heap.get? b=some o->h'.get? b=some o)->Q (.ref (s.heap.objs.size+4)) { s with heap:=h' }):
  wpAny (model prog w) A (call (.type "zip") [.str x t, .ref m]) Q E s:=by
 refine callType_new F.called_zip (by decide) (F.typeCall_zip_2 _ _) (F.newCall_zip_2 _ _) (fun ob=>F.args_object_init_3 ob _ _) F.entry_zip_new (rK x t m ys) ⟨p2,?_⟩
 have e1:(N0 s.heap x t).objs.size=s.heap.objs.size+1:=Heap.size_push ..
 have e2:(N_ s.heap x t m).objs.size=s.heap.objs.size+2:=by rw[Heap.size_push,e1]
 have e3:(Oa s.heap x t m).objs.size=s.heap.objs.size+3:=by rw[Heap.size_push,e2]
 have e4:(Ob s.heap x t m).objs.size=s.heap.objs.size+4:=by rw[Heap.size_push,e3]
 have g5:(JF s.heap x t m).get? (Ob s.heap x t m).objs.size=some _:=Heap.get?_push_size _ rfl
 have g4:(JF s.heap x t m).get? (Oa s.heap x t m).objs.size=some _:=Heap.get?_push_of_some _ (Heap.get?_push_size _ rfl)
 have g3:(JF s.heap x t m).get? (N_ s.heap x t m).objs.size=some _:=Heap.get?_push_of_some _ (Heap.get?_push_of_some _ (Heap.get?_push_size _ rfl))
 have g2:(JF s.heap x t m).get? (N0 s.heap x t).objs.size=some _:=Heap.get?_push_of_some _ (Heap.get?_push_of_some _ (Heap.get?_push_of_some _ (Heap.get?_push_size _ rfl)))
 have g1:(JF s.heap x t m).get? s.heap.objs.size=some _:=Heap.get?_push_of_some _ (Heap.get?_push_of_some _ (Heap.get?_push_of_some _ (Heap.get?_push_of_some _ (Heap.get?_push_size _ rfl))))
 show _/\_
 rw[e2,e3,e4]at g5
 rw[e1,e2]at g3
 rw[e3]at g4
 rw[e1]at g2
 rw[e4]
 exact ⟨⟨_,g5,rfl⟩,h _ g5 g3 g4 g1 g2 fun b o x=>Heap.get?_push_of_some _ (Heap.get?_push_of_some _ (Heap.get?_push_of_some _ (Heap.get?_push_of_some _ (Heap.get?_push_of_some _ x))))⟩
theorem Du {n m:Nat} (h2:m<n):ZA (n+4:Nat) (n+2:Nat) (n+3:Nat) n (n+1:Nat) [n] [(n+1:Nat),m]:=by
 have n1: ∀{a b:Nat},a≠b->(a:Addr)∉([b]:List Addr):=fun h q=>h (List.mem_singleton.mp q)
 exact ⟨List.mem_cons_self,List.mem_cons_self,n1 (a:=n+4) (by omega),C7 (a:=n+4) (b:=n+1) (c:=m) (by omega) (by omega),n1 (a:=n+3) (by omega),C7 (a:=n+3) (b:=n+1) (c:=m) (by omega) (by omega),
  C7 (a:=n) (b:=n+1) (c:=m) (by omega) (by omega),n1 (a:=n+1) (by omega),Cg (a:=n+2) (b:=n+4) (by omega),Cg (a:=n+2) (b:=n+3) (by omega),Cg (a:=n+2) (b:=n) (by omega),Cg (a:=n+2) (b:=n+1) (by omega),Cg (a:=n+3) (b:=n+4) (by omega)⟩
section
variable {X:Cx} {elts:List Expr} {k:Nat} {pos':Pos} {a b:Expr} {ta:TA} {p pos:Pos}
abbrev LI (l:List Nat):Hp->List V->Prop:=fun _ xs=>xs=bO l
def Hw (K:PySem.W.Frag) (ta:TA):TI:=fun σ H R=>ta σ H fun vs H1=> ∃l b,vs=[.str (S l), .ref b]/\(∃ys,aN K H1 b ys)/\R (E2 (LI l) (C8 K b)) H1
theorem AE (K:PySem.W.Frag) (hK:X.K=K) (hg:Gl X "zip") (hm:X.mg "zip"=none) (ha:PA X [a,b] ta) (hs:starEach [a,b] X.env=[(false,eval a X.env),(false,eval b X.env)]:=by rfl) (nr:starEach [b] X.env=[(false,eval b X.env)]:=by rfl):
  PI X (.Tuple elts k pos') (.Call (.Name "zip" p) [a,b] [] pos) (Hw K ta):=by
 subst hK
 intro pins s σ H R I h
 refine Call_ (dz I hg hm boot_zip (PyProof.Rows.callWith_type1 (bQ (ha pos pins s σ H _ I h) fun us s1 ⟨vs,H1,I1,r1,q1⟩=>?_) (by rw[hs,nr]) (by rw[nr];rfl)))
 obtain ⟨l,v,rfl,⟨ys,hy⟩,q⟩:=q1
 obtain ⟨u',v',rfl,ru,rv⟩:=vals2 r1
 obtain ⟨t,rfl⟩:=ru
 cases rv
 obtain ⟨yi,_,py,_⟩:=I1.tuple hy
 obtain ⟨oy,ey,_⟩:=id py
 have lv:=Heap.lt_size ey
 refine Hv (S l) t v yi.toArray py fun h' z1 z2 z3 z4 z5 kk=>wpAny_pyIter_zip z1 ?_
 refine ⟨s1.heap.objs.size+4,[s1.heap.objs.size+4,s1.heap.objs.size+2,s1.heap.objs.size+3,s1.heap.objs.size,s1.heap.objs.size+1],_,_,H1,rfl,I1.kept (t':=s1.toks) kk,xF (Hu s1.heap.objs.size l t) ((Ae v (s1.heap.objs.size+1)).zt (Nat.ne_of_lt (Nat.lt_succ_of_lt lv))) (Du lv),
  ⟨z1,z2,⟨_,_,z3⟩,⟨_,z4,rfl,rfl⟩,⟨_,z5,rfl,rfl⟩⟩,fun e he=>?_,q⟩
 have Lm:s1.heap.objs.size<=e:=by
  simp only[List.mem_cons,List.not_mem_nil,or_false]at he
  rcases he with g | g | g | g | g<;>rw[g]<;>omega
 exact I1.lS Lm (I1.aX.fresh Lm)
end
end L2
set_option maxHeartbeats 1000000
namespace L2
open PySem PySem.Spec PyProof.Rows
section
variable {prog:Program} {w:World} {A:Around} {E:Value->Shared->Prop} {s:Shared} {KK:Type} [DecidableEq KK] {knd:PySem.KeyKind prog w KK}
end
section
variable {X:Cx}
end
end L2
namespace L2
open PySem PySem.Spec PyProof.Rows
section
variable {X:Cx}
end
end L2
set_option maxHeartbeats 4000000
namespace XL
open PySem PySem.Spec PySem.Calls PyProof.Rows PySem.W
section
variable {M:Model} {A:Around} {E:Value->Shared->Prop} {s:Shared} {base:Heap} {env Yb:Env} {outer:List Env} {L e C:Addr} {dO:Option Addr}
end
end XL
set_option maxHeartbeats 4000000
namespace L2
open PySem PySem.Spec PyProof.Rows XL
section
variable {P:Program} {w:World} {K:PySem.W.Frag} {mg:Str->Option Value} {base:Heap} {N:List Str} {qual:Str} {scope:Scope} {f:Addr} {cd:Value} {A:Around} {outer:List Env} {s:Shared} {H:Hp} {E:XK}
end
section
variable {X:Cx} {scope:Scope} {C:Addr} {Nc:List Str} {s0:Shared} {H0:Hp} {fp:List Addr} {pn pins:List (Addr×Obj)} {xe:Value->Shared->Prop} {σ:St} {H:Hp} {s:Shared}
end
end L2
set_option maxHeartbeats 1000000
namespace L2
open PySem PySem.Spec PyProof.Rows
section
variable {X:Cx}
end
end L2
namespace L2
open PySem PySem.Spec PyProof.Rows
section
variable {X:Cx}
def AF:List V->Hp->VK->Prop:=fun xs H Q=> ∃x,xs=[x, .ty "list"]/\((∃p ys,x= .ref p/\H p=some (.lst ys)/\Q (.bl true) H)\/(∃p ys,x= .ref p/\H p=some (.tup ys)/\Q (.bl false) H)\/(∃z,x= .str z/\Q (.bl false) H))
theorem j4 (K:PySem.W.Frag) (h:X.K=K):cS X (.builtin "isinstance") AF:=by
 subst h
 intro pins s σ H xs us Q I r h
 obtain ⟨x,rfl,h⟩:=h
 obtain ⟨u,w',rfl,r1,r2⟩:=vals2 r
 cases (show w'=Value.type "list" from r2)
 rcases h with ⟨p,ys,rfl,hq,q⟩ | ⟨p,ys,rfl,hq,q⟩ | ⟨z,rfl,q⟩
 ·exact kq I r1 (.lst hq) (by unfold PySem.W.kitOne;rw[if_pos (by decide)]) fun tk=>⟨.bl true,H,I.tok _,rfl,q⟩
 ·exact kq I r1 (.tup hq) (b:=false) (by unfold PySem.W.kitOne;rw[if_neg (by decide)];rfl) fun tk=>⟨.bl false,H,I.tok _,rfl,q⟩
 ·exact kq I r1 (.str z) (b:=false) (by unfold PySem.W.kitOne;rw[if_neg (by decide)];rfl) fun tk=>⟨.bl false,H,I.tok _,rfl,q⟩
end
end L2
namespace PySem
open Sem (wp)
section
variable {prog:Program} {w:World} {K:Type} [DecidableEq K] (knd:KeyKind prog w K)
variable {knd}
variable {A:Around} {E:Value->Shared->Prop} {s:Shared}
end
end PySem
namespace PySem
open Sem (wp)
namespace F
end F
section
variable {prog:Program} {w:World} {A:Around} {E:Value->Shared->Prop} {s:Shared}
end
section
variable {prog:Program} {w:World} {K:Type} [DecidableEq K] {knd:HeapKind prog w K} {A:Around} {E:Value->Shared->Prop} {s:Shared}
end
end PySem
namespace L2
open PySem PySem.Spec PyProof.Rows
def LJ (H:Hp) (k:Key×List Key) (a:Addr):Prop:= ∃b,H a=some (.tup [kV k.1, .ref b])/\H b=some (.tup (k.2.map kV))
section
variable {X:Cx} {o i:Expr} {pos:Pos} {td ty:TE}
structure Yc where
 t:Addr
 a:Addr
 k:Key×List Key
 n:Int
structure Vv (H:Hp) (e:Yc):Prop where
 tp:H e.t=some (.tup [.ref e.a, .int e.n])
 ky:LJ H e.k e.a
end
end L2
namespace L2.F2
open PySem PySem.Spec PyProof.Rows
end L2.F2
namespace L2
open PySem PySem.Spec PyProof.Rows
section
variable {prog:Program} {w:World} {A:Around} {E:Value->Shared->Prop} {s:Shared}
end
section
variable {X:Cx} {tg:Expr}
end
theorem jt {K:PySem.W.Frag} {a:Addr} {xs:List V} {σc:St} {g:TG} {tc:TT} {te:TE} {Q:VK} {H1:Hp} (Pv:Nat->List V->Hp->Prop) (hn:xs.length<sizeLine) (hl: ∀i acc H,Pv i acc H->aJ K H a xs) (h0:Pv 0 [] H1)
  (hs: ∀(i:Nat) (x:V) (acc:List V) (H:Hp) (T:Addr) (Nx:List V->Hp->Prop),xs[i]? =some x->acc.length<=i->Pv i acc H->H T=none->(∀bF H',bF.length<=i+1->Pv (i+1) bF H'->Nx bF H')->
   g (.ref T) σc (upd H T (.tup [.int i,x])) fun σ2 H2=>Wk σc σ2/\tc σ2 H2 fun b H3=>if b=true then te σ2 H3 fun v H4=>Nx (acc++[v]) H4 else Nx acc H3)
  (hd: ∀acc H D,acc.length<=xs.length->Pv xs.length acc H->H D=none->Q (.ref D) (upd H D (.lst acc))):jR (xt K a) σc g tc te Q H1:=by
 refine ⟨fun i m acc H=>m=xs.length - i/\i<=xs.length/\acc.length<=i/\Pv i acc H,⟨xs.length,by simp,Nat.zero_le _,Nat.le_refl _,h0⟩,?_⟩
 rintro i m acc H ⟨rfl,hi,jI,p⟩
 refine ⟨by omega,?_⟩
 by_cases eK:i<xs.length
 ·refine .inr ⟨⟨xs,xs[i],hl i acc H p,List.getElem?_eq_getElem eK⟩,fun x H' y=>?_⟩
  obtain ⟨T,z,hy,rfl,hT,rfl⟩:=y
  exact hs i z acc _ T (fun bF H'=> ∃m',m'<xs.length - i/\(m'=xs.length - (i+1)/\i+1<=xs.length/\bF.length<=i+1/\Pv (i+1) bF H')) (hy xs (hl i acc H p)) jI p hT fun bF H' h1 h2=>⟨xs.length - (i+1),by omega,rfl,eK,h1,h2⟩
 ·have e:i=xs.length:=by omega
  subst e
  exact .inl ⟨⟨xs,hl _ acc H p,rfl⟩,fun D hD=>hd acc H D jI p hD⟩
end L2
set_option maxHeartbeats 1000000
namespace L2
open PySem PySem.Spec PyProof.Rows
section
variable {X:Cx}
def Hx:List V->Hp->VK->Prop:=fun xs H Q=> ∃d kvs,xs=[.ref d]/\H d=some (.dK kvs)/\kvs.length<=100000/\ ∀l,H l=none->Q (.ref l) (upd H l (.lst (kvs.map fun kv=>kV kv.1)))
theorem xG {P:Program} {w:World} {k:Key} {u:Value} (h:(bI P w).is k u=true):RelV (kV k) u:=by
 rcases bN h with ⟨i,t,rfl,rfl⟩ | ⟨x,t,rfl,rfl⟩
 ·exact ⟨t,rfl⟩
 ·exact ⟨t,rfl⟩
theorem uH (hc:X.calm=true):cS X (.type "list") Hx:=by
 intro pins s σ H xs us Q I r h
 obtain ⟨d,kvs,rfl,hd,hz,q⟩:=h
 obtain ⟨u,rfl,ru⟩:=vals1 r
 cases ru
 obtain ⟨z,lo,ws,kv,dd⟩:=z_ I.aX hd
 obtain ⟨o,es,ep,ho,he,GU,hk,Ye,hn⟩:=dd
 have hm:s.heap.DictAt (bI X.prog X.w) d ws ep:=⟨o,es,ho,he,GU,hk,Ye,hn⟩
 have Yf:ws.length=kvs.length:=kv.length.symm
 have LK:=kv.keys
 have hs:(100000:Nat)<sizeLine:=by decide
 refine PySem.W.kdl_call (PySem.W.kdl_dict (knd:=bI X.prog X.w) (kvs:=ws) (ep:=ep) lo) (I.ok.hd hc) hm (by omega) fun h' tk bF c' Yg e um=>?_
 obtain ⟨h1,h2⟩:=um
 refine ⟨.ref s.heap.objs.size,_,I.laid (t':=tk) (o:= .lst (kvs.map fun kv=>kV kv.1)) Yg (Nat.le_refl _) ?_,rfl,q _ I.fresh⟩
 refine ⟨by rw[List.length_map];omega,bF.toList,c',?_,by simpa using e⟩
 have gen: ∀(l:List (Key×V)) (vs:List Value),vs.length=l.length->(∀(j:Nat) (v:Value),vs[j]? =some v-> ∃k,(l.map (·.1))[j]? =some k/\(bI X.prog X.w).is k v=true)->Vals (l.map fun kv=>kV kv.1) vs:=by
  intro l
  induction l with
  | nil=>intro vs hl _;cases vs with
   | nil=>exact .nil
   | cons _ _=>cases hl
  | cons p l ih=>
   intro vs hl h
   cases vs with
   | nil=>cases hl
   | cons v vs=>
    obtain ⟨k,hk,hi⟩:=h 0 v rfl
    cases hk
    exact .cons (xG hi) (ih vs (by simpa using hl) fun j w hj=>by have:=h (j+1) w (by simpa using hj);simpa using this)
 refine gen kvs bF.toList (by rw[<-Yf];simpa using h1) fun j v ej=>?_
 obtain ⟨k,x,ek,ei⟩:=h2 j v (by simpa using ej)
 refine ⟨k,?_,ei⟩
 rw[LK,List.getElem?_map,ek]
 rfl
theorem AG {i:Nat} (h:(i:Int)<2 ^ 63):Builtin.List.listFitsIndex (i:Int)=true:=by
 unfold Builtin.List.listFitsIndex
 rw[Bool.and_eq_true]
 exact ⟨decide_eq_true (by omega),decide_eq_true (by omega)⟩
def Dv:V->List V->Hp->VK->Prop:=fun x vs H Q=> ∃(l:Addr) (xs:List V) (i:Nat) (y:V),x= .ref l/\vs=[.int i,y]/\H l=some (.lst xs)/\i<=xs.length/\xs.length<sizeLine/\Q .bY (upd H l (.lst (xs.take i++y::xs.drop i)))
theorem fj:KG X "list.insert" Dv:=by
 intro pins s σ H x vs v us Q I rx rv h
 obtain ⟨l,xs,i,y,rfl,rfl,hH,hi,hz,q⟩:=h
 cases rx
 obtain ⟨a,b,rfl,⟨t,rfl⟩,rb⟩:=vals2 rv
 obtain ⟨z,aL,n,r,hl,e⟩:=I.pR hH
 have hn:=jq
 have hf: ¬(!Builtin.List.listFitsIndex (i:Int))=true:=by rw[AG (by omega)];decide
 have hsz:aL.toArray.size<=sizeLine:=by rw[List.size_toArray];omega
 generalize hI:(i:Int)=I' at hf
 have hm:=PySem.AutoSeq1.list_insert_list_int_val_1 l aL.toArray n I' t b hf hsz
 refine call_meets F.slot_list_insert ⟨_,e,rfl⟩ F.entry_list_insert (F.args_list_insert_3 _ _ _) hm ⟨e,?_⟩
 clear hm
 refine ⟨.bY,_,I.zI (its':=aL.take i++b::aL.drop i) hH e ?_ ?_ ?_,rfl,q⟩
 ·have e1:(if I'<0 then (I'+(aL.toArray.size:Int)).toNat else min I'.toNat aL.toArray.size)=i:=by rw[<-hI,if_neg (by omega),Int.toNat_natCast,List.size_toArray];omega
  show ((aL.toArray.extract 0 (if I'<0 then (I'+(aL.toArray.size:Int)).toNat else min I'.toNat aL.toArray.size)).push b++aL.toArray.extract (if I'<0 then (I'+(aL.toArray.size:Int)).toNat else min I'.toNat aL.toArray.size))=_
  rw[e1]
  apply Array.toList_inj.mp
  simp
  exact List.take_of_length_le (by rw[List.length_drop];exact Nat.le_refl _)
 ·have h1:Vals (xs.take i) (aL.take i):=r.take i
  exact h1.append (.cons rb (r.drop i))
 ·rw[List.length_append,List.length_cons,List.length_take,List.length_drop];omega
def Hy (K:PySem.W.Frag):V->List V->Hp->VK->Prop:=fun x vs H Q=> ∃(p:Addr) (ls:List (List Nat)),x= .str (S [])/\vs=[.ref p]/\aN K H p (ls.map fun l=>V.str (S l))/\(ls.map List.length).sum<=16777216/\Q (.str (S ls.flatten)) H
theorem AH (K:PySem.W.Frag) (h:X.K=K):xh X "str.join" (Hy K):=by
 subst h
 intro pins s σ H x xs v us Q I rx rv h
 obtain ⟨p,ls,rfl,rfl,hq,hz,q⟩:=h
 obtain ⟨t,rfl⟩:=rx
 obtain ⟨u,rfl,ru⟩:=vals1 rv
 cases ru
 obtain ⟨aL,r,pl,_⟩:=I.tuple hq
 have e:(S []).length=0:=rfl
 refine join_tuple pl (by simpa using js r) ?_ fun t' k=>?_
 ·rw[e,Nat.mul_zero,Nat.add_zero,List.map_map]
  have e2:(Str.length ∘ S)=List.length:=by funext l;exact d_ l
  have e3:((fun x:Str=>x.length) ∘ S)=List.length:=by funext l;exact d_ l
  first | (rw[e2];exact hz) | (rw[e3];exact hz)
 ·exact ⟨.str (S ls.flatten),H,I.tok _,⟨t',congrArg (fun z=>Value.str z t') (zP ls)⟩,q⟩
def xH (ta:TA):TE:=fun σ H Q=>ta σ H fun vs H1=> ∃j:Int,vs=[.int j]/\ -(2 ^ 61)<=j/\j<=1000000/\ ∀q,H1 q=none->Q (.ref q) (upd H1 q (.lst ((List.range j.toNat).map fun (k:Nat)=>V.int (0+(k:Int)))))
def xI (ta:TA):TE:=fun σ H Q=>ta σ H fun vs H1=> ∃i j:Int,vs=[.int i, .int j]/\(-(2 ^ 61)<=i/\i<2 ^ 61/\ -(2 ^ 61)<=j/\j<2 ^ 61)/\j - i<=1000000/\ ∀q,H1 q=none->Q (.ref q) (upd H1 q (.lst ((List.range (j - i).toNat).map fun (k:Nat)=>V.int (i+(k:Int)))))
theorem rM {i:Int}: ∀(n:Nat) (vs:List Value),vs.length=n->(∀(j:Nat) (v:Value),vs[j]? =some v-> ∃t,v= .int (i+(j:Int)*1) t)->Vals ((List.range n).map fun (k:Nat)=>V.int (i+(k:Int))) vs
 | 0,vs,hl,_=>by
  obtain rfl:vs=[]:=List.length_eq_zero_iff.mp hl
  exact .nil
 | n+1,vs,hl,h=>by
  have e:vs=vs.take n++[vs[n]'(by omega)]:=by
   conv=>lhs;rw[<-List.take_length (l:=vs),hl,List.take_succ_eq_append_getElem (by omega)]
  obtain ⟨t,ht⟩:=h n (vs[n]'(by omega)) (List.getElem?_eq_getElem _)
  rw[e,List.range_succ,List.map_append]
  refine (rM n (vs.take n) (by rw[List.length_take];omega) fun j w hj=>h j w ?_).append (.cons ⟨t,?_⟩ .nil)
  ·have Yh:=(List.getElem?_eq_some_iff.mp hj).1
   rw[List.length_take]at Yh
   rw[List.getElem?_take_of_lt (by omega)]at hj
   exact hj
  ·rw[ht,Int.mul_one]
theorem rN {pins:List (Addr×Obj)} {σ:St} {H:Hp} {s:Shared} {Q:VK} {lo hi:Int} {t u v:Tok} {tk:Nat} (hc:X.calm=true) (I:Inv X pins σ H s) (h1: -(2 ^ 61)<=lo) (h2:lo<2 ^ 61) (h3: -(2 ^ 61)<=hi) (h4:hi<2 ^ 61) (hz:hi - lo<=1000000)
  (q: ∀p,H p=none->Q (.ref p) (upd H p (.lst ((List.range (hi - lo).toNat).map fun (k:Nat)=>V.int (lo+(k:Int)))))):
  wpAny (model X.prog X.w) X.A (call (.type "list") [.ref s.heap.objs.size]) (EP X pins σ Q) X.xe { s with heap:=s.heap.push { cls:= .type "range",data:= .fields #[.int lo t, .int hi u, .int 1 v] },toks:=tk }:=by
 have hs:(1000000:Nat)<sizeLine:=by decide
 refine PySem.call_list_range (n:=(hi - lo).toNat) (I.ok.hd hc) (IsRange.new ..) (small_one (by omega) (by omega) (by omega) (by omega)) (by rw[rangeSize_one];split<;>omega) (by omega) fun h' vT bF c' hk e um=>?_
 obtain ⟨zf,Yi⟩:=um
 have hsz:(s.heap.push { cls:= .type "range",data:= .fields #[.int lo t, .int hi u, .int 1 v] }).objs.size=s.heap.objs.size+1:=Heap.size_push _ _
 refine ⟨.ref _,_,I.laid (t':=vT) (o:= .lst ((List.range (hi - lo).toNat).map fun (k:Nat)=>V.int (lo+(k:Int)))) (fun b o hb=>hk b o (Heap.get?_push_of_some _ hb)) (Nat.le_of_lt (by show s.heap.objs.size<_;rw[hsz];exact Nat.lt_succ_self _)) ?_,rfl,q _ (I.aX.fresh (Nat.le_of_lt (by show s.heap.objs.size<_;rw[hsz];exact Nat.lt_succ_self _)))⟩
 exact ⟨by rw[List.length_map,List.length_range];omega,bF.toList,c',rM _ _ (by simpa using zf) (fun j v e=>Yi j v (by simpa using e)),by simpa using e⟩
theorem iq {a:Expr} {ta:TA} {p p2 pos nC:Pos} (hc:X.calm=true) (QC:Gl X "list") (JG:X.mg "list"=none) (hg:Gl X "range") (hm:X.mg "range"=none) (ha:PA X [a] ta)
  (hs:starEach [a] X.env=[(false,eval a X.env)]:=by rfl) (nr:starEach [.Call (.Name "range" p2) [a] [] nC] X.env=[(false,eval (.Call (.Name "range" p2) [a] [] nC) X.env)]:=by rfl):
  PE X (.Call (.Name "list" p) [.Call (.Name "range" p2) [a] [] nC] [] pos) (xH ta):=by
 intro pins s σ H Q I h
 refine Call_ (dz I QC JG boot_list (PyProof.Rows.callWith_type1 ?_ nr rfl))
 rw[nr]
 refine Calls.spliced_cons ?_
 refine Call_ (dz I hg hm boot_range (PyProof.Rows.callWith_type1 (bQ (ha nC pins s σ H _ I h) fun us s1 ⟨vs,H1,I1,r1,q1⟩=>?_) hs rfl))
 obtain ⟨j,rfl,q1,q2,q⟩:=q1
 obtain ⟨u,rfl,t,rfl⟩:=vals1 r1
 refine call_range_1 ?_
 refine Calls.spliced_nil ?_
 refine rN hc I1 (by omega) (by omega) q1 (by omega) (by omega) (by simpa using q)
theorem kY {a b:Expr} {ta:TA} {p p2 pos nC:Pos} (hc:X.calm=true) (QC:Gl X "list") (JG:X.mg "list"=none) (hg:Gl X "range") (hm:X.mg "range"=none) (ha:PA X [a,b] ta)
  (hs:starEach [a,b] X.env=[(false,eval a X.env),(false,eval b X.env)]:=by rfl) (Vw:starEach [b] X.env=[(false,eval b X.env)]:=by rfl) (nr:starEach [.Call (.Name "range" p2) [a,b] [] nC] X.env=[(false,eval (.Call (.Name "range" p2) [a,b] [] nC) X.env)]:=by rfl):
  PE X (.Call (.Name "list" p) [.Call (.Name "range" p2) [a,b] [] nC] [] pos) (xI ta):=by
 intro pins s σ H Q I h
 refine Call_ (dz I QC JG boot_list (PyProof.Rows.callWith_type1 ?_ nr rfl))
 rw[nr]
 refine Calls.spliced_cons ?_
 refine Call_ (dz I hg hm boot_range (PyProof.Rows.callWith_type1 (bQ (ha nC pins s σ H _ I h) fun us s1 ⟨vs,H1,I1,r1,q1⟩=>?_) (by rw[hs,Vw]) (by rw[Vw];rfl)))
 obtain ⟨i,j,rfl,⟨q1,q2,q3,q4⟩,q5,q⟩:=q1
 obtain ⟨u,u',rfl,⟨t,rfl⟩,⟨t',rfl⟩⟩:=vals2 r1
 refine call_range_2 ?_
 refine Calls.spliced_nil ?_
 exact rN hc I1 q1 q2 q3 q4 q5 q
end
end L2
namespace L2
open PySem PySem.Spec PyProof.Rows PySem.W
section
structure Tot (lt:Nat->Nat->Bool) (n:Nat):Prop where
 tr: ∀a b c,lt b a=false->lt c b=false->lt c a=false
 sm: ∀a b,lt a b=true->lt b a=false
 tt: ∀a b,a<n->b<n->a≠b->lt a b=false->lt b a=true
section
variable {lt:Nat->Nat->Bool} {n:Nat}
end
end
section
variable {prog:Program} {w:World} {A:Around} {E:Value->Shared->Prop} {s:Shared}
end
section
variable {X:Cx}
end
end L2
namespace L2
open PySem PySem.Spec PyProof.Rows
section
variable {X:Cx} {tg:Expr}
end
section
variable {X:Cx} {tg:Expr}
end
end L2
namespace L2
open PySem PySem.Spec PyProof.Rows PySem.MeetsSeq PySem.SeqAt
section
variable {X:Cx}
end
end L2
namespace L2
open PySem PySem.Spec PyProof.Rows
section
variable {prog:Program} {w:World} {A:Around} {E:Value->Shared->Prop} {s:Shared}
variable {z TI TO i1 i2:Addr} {f1 f2:List Addr} {n1 n2 i:Nat} {P1 P2:Nat->Value->Prop} {S1 S2:Nat->Heap->Prop} {a b:Value}
end
section
variable {X:Cx} {nx:Str} {pos':Pos} {a b:Expr} {ta:TA} {p pos:Pos}
end
end L2
namespace L2
open PySem PySem.Spec PyProof.Rows HT
section
variable {prog:Program} {w:World} {A:Around} {E:Value->Shared->Prop} {s:Shared}
theorem AI {t b:Addr} {ws:List Value} {Q:Value->Shared->Prop} (ht:IsTup s.heap t #[]) (hb:IsTup s.heap b ws.toArray) (h:Q (.ref b) s):wpAny (model prog w) A (binaryOp .Add (.ref t) (.ref b)) Q E s:=by
 obtain ⟨⟨cls,dd,data,sl⟩,ho,hc,n,hd⟩:=id ht
 obtain ⟨⟨PU,NM,data2,uf⟩,y8,Kv,n2,hd2⟩:=id hb
 simp only at hc hd Kv hd2
 subst hc hd Kv hd2
 exact concat_meets ⟨_,ho,rfl⟩ ⟨_,y8,rfl⟩ noFill_tuple_add seq_tuple_add PySem.F.slot_tuple_add PySem.F.entry_tuple_add (PySem.F.args_tuple_add_2 _ _)
  (tuple_addW0 t b #[] ws.toArray n n2 dd NM sl uf (by simp)) ⟨ho,y8,h⟩
end
section
variable {X:Cx}
def LL:R2:=fun x y H Q=> ∃a b xs ys,x= .ref a/\y= .ref b/\H a=some (.tup xs)/\H b=some (.tup ys)/\xs.length+ys.length<=sizeLine/\
 ∀p H',(∀c o,H c=some o->H' c=some o)->H' p=some (.tup (xs++ys))->Q (.ref p) H'
theorem Dw:gc X (binaryOp .Add) LL:=by
 intro pins s σ H x y v u Q I rx ry h
 obtain ⟨a,b,xs,ys,rfl,rfl,ha,hb,hz,q⟩:=h
 cases rx
 cases ry
 obtain ⟨aL,r1,p1,_⟩:=I.tuple (aN.of ha)
 obtain ⟨pK,r2,p2,_⟩:=I.tuple (aN.of hb)
 by_cases hx:xs=[]
 ·subst hx
  cases r1
  exact AI p1 p2 ⟨.ref b,H,I,rfl,q b H (fun _ _ e=>e) hb⟩
 refine HT.vE p1 p2 (fun z=>hx (r1.jL.mp z)) (fun z=>⟨.ref a,H,I,rfl,?_⟩) (fun z=>?_) (by rw[<-r1.length, <-r2.length];exact hz)
 ·have e:=r2.jL.mp z
  exact q a H (fun _ _ e=>e) (by rw[e,List.append_nil];exact ha)
 ·have n:=I.aX.fresh (Nat.le_refl s.heap.objs.size)
  refine ⟨.ref s.heap.objs.size,_,I.laid (t':=s.toks) (o:= .tup (xs++ys)) (fun b ob q=>Heap.get?_push_of_some _ q) (Nat.le_refl _) ?_,rfl,q _ _ (fun c o e=>?_) ae⟩
  ·exact ⟨by rw[List.length_append];exact hz,_,r1.append r2,IsTup.new _ _⟩
  ·rw[aj (fun z=>by rw[z,n]at e;cases e)];exact e
end
end L2
namespace L2
open PySem PySem.Spec PyProof.Rows
structure KD (K:PySem.W.Frag) (P:Program) (w:World) (a:Addr) (kvs:List (Key×V)):Prop where
 sm:(a==sysModules)=false
 ok: ∃vs ep,KV kvs vs/\ ∀h:Heap,K.In h->h.DictAt (bI P w) a vs ep
section
variable {X:Cx} {o i e value tg:Expr} {pos pos' Kq:Pos} {td ty tv:TE} (K:PySem.W.Frag) (P:Program) (w:World)
end
end L2
namespace L2
open PySem PySem.Spec PyProof.Rows
section
variable {X:Cx}
end
end L2
namespace L2
open PySem PySem.Spec PyProof.Rows
section
variable {X:Cx}
end
end L2
namespace L2
open PySem PySem.Spec PyProof.Rows
end L2
namespace L2
open PySem PySem.Spec PyProof.Rows
section
variable {X:Cx} {tg:Expr}
end
end L2
set_option maxHeartbeats 1000000
namespace L2
open PySem PySem.Spec PyProof.Rows
section
variable {prog:Program} {w:World} {A:Around} {E:Value->Shared->Prop} {s:Shared}
end
section
variable {X:Cx} {a b:Expr} {ta:TA} {p p2 pos nC:Pos}
end
end L2
set_option maxHeartbeats 1000000
namespace L2
open PySem PySem.Spec PyProof.Rows
structure PB (a₀:Array Keyed) (st:SortSt):Prop where
 perm:(arrOf st).Perm a₀
 kind:kindOf st=oneType'
 failed:failedOf st=none
section
variable {prog:Program} {w:World} {A:Around} {E:Value->Shared->Prop} {s:Shared} {κ:KeyKind} {a₀:Array Keyed}
end
def Mg (a b out:Array Keyed) (ia ib:Nat):Prop:=out.toList.Perm (a.toList.take ia++b.toList.take ib)
def Mh (a b out:Array Keyed) (na nb:Nat):Prop:=out.toList.Perm (a.toList.drop na++b.toList.drop nb)
section
variable {prog:Program} {w:World} {A:Around} {E:Value->Shared->Prop} {s:Shared} {κ:KeyKind} {a₀:Array Keyed}
end
end L2
set_option maxHeartbeats 1000000
namespace L2
open PySem PySem.Spec PyProof.Rows
section
variable {prog:Program} {w:World} {A:Around} {E:Value->Shared->Prop} {s:Shared} {κ:KeyKind} {a₀:Array Keyed}
end
noncomputable def cp (P:Array (Nat×Nat×Nat)):List (Nat×Nat):=P.toList.map fun x=>(x.1,x.2.1)
section
variable {prog:Program} {w:World} {A:Around} {E:Value->Shared->Prop} {s:Shared} {κ:KeyKind} {a₀:Array Keyed}
end
end L2
set_option maxHeartbeats 1000000
namespace L2
open PySem PySem.Spec PyProof.Rows
section
variable {prog:Program} {w:World} {A:Around} {E:Value->Shared->Prop} {s:Shared}
end
section
variable {X:Cx}
end
end L2
set_option maxHeartbeats 1000000
namespace L2
open PySem PySem.Spec PyProof.Rows
section
variable {X:Cx}
end
end L2
set_option maxHeartbeats 1000000
namespace L2
open PySem PySem.Spec PyProof.Rows
structure Yj (lt:Keyed->Keyed->Bool):Prop where
 Yk: ∀p q,lt p q=true->lt q p=false
 tr: ∀p q r,lt q p=false->lt r q=false->lt r p=false
section
variable {prog:Program} {w:World} {A:Around} {E:Value->Shared->Prop} {s:Shared} {kd:SortKind} {lt:Keyed->Keyed->Bool} {a₀:Array Keyed}
end
end L2
set_option maxHeartbeats 1000000
namespace L2
open PySem PySem.Spec PyProof.Rows
section
variable {lt:Keyed->Keyed->Bool}
def LM (lt:Keyed->Keyed->Bool) (l:List Keyed):Prop:=l.Pairwise fun p q=>lt q p=false
structure MgS (lt:Keyed->Keyed->Bool) (a b out:Array Keyed) (ia ib:Nat):Prop where
 m:Mg a b out ia ib
 sa:LM lt (out.toList++a.toList.drop ia)
 sb:LM lt (out.toList++b.toList.drop ib)
variable {a b out:Array Keyed} {ia ib k:Nat} {p q:Keyed}
end
section
variable {prog:Program} {w:World} {A:Around} {E:Value->Shared->Prop} {s:Shared} {kd:SortKind} {lt:Keyed->Keyed->Bool} {a₀:Array Keyed}
end
end L2
set_option maxHeartbeats 1000000
namespace L2
open PySem PySem.Spec PyProof.Rows
section
variable {lt:Keyed->Keyed->Bool}
structure MhS (lt:Keyed->Keyed->Bool) (a b out:Array Keyed) (na nb:Nat):Prop where
 m:Mh a b out na nb
 sa:LM lt (a.toList.take na++out.toList.reverse)
 sb:LM lt (b.toList.take nb++out.toList.reverse)
variable {a b out:Array Keyed} {na nb k:Nat} {p q:Keyed}
end
section
variable {prog:Program} {w:World} {A:Around} {E:Value->Shared->Prop} {s:Shared} {kd:SortKind} {lt:Keyed->Keyed->Bool} {a₀:Array Keyed}
end
end L2
set_option maxHeartbeats 1000000
namespace L2
open PySem PySem.Spec PyProof.Rows
section
variable {lt:Keyed->Keyed->Bool}
structure PKd (kd:SortKind) (a₀:Array Keyed) (st:SortSt):Prop where
 perm:(arrOf st).Perm a₀
 kind:kindOf st=kd
 failed:failedOf st=none
end
section
variable {prog:Program} {w:World} {A:Around} {E:Value->Shared->Prop} {s:Shared} {kd:SortKind} {lt:Keyed->Keyed->Bool} {a₀:Array Keyed}
end
section
variable {prog:Program} {w:World} {A:Around} {E:Value->Shared->Prop} {s:Shared} {kd:SortKind} {lt:Keyed->Keyed->Bool} {a₀:Array Keyed}
end
end L2
set_option maxHeartbeats 1000000
namespace L2
open PySem PySem.Spec PyProof.Rows
noncomputable def spans:Nat->List (List Keyed)->List (Nat×Nat)
 | _,[]=>[]
 | a,l::r=>(a,l.length)::spans (a+l.length) r
structure Blk (lt:Keyed->Keyed->Bool) (st:SortSt) (bl:List (List Keyed)) (rest:List Keyed):Prop where
 arr:(arrOf st).toList=bl.flatten++rest
 pen:cp (pendingOf st)=spans 0 bl
 ok: ∀l∈bl,l≠[]/\LM lt l
section
variable {prog:Program} {w:World} {A:Around} {E:Value->Shared->Prop} {s:Shared} {kd:SortKind} {lt:Keyed->Keyed->Bool} {a₀:Array Keyed}
end
end L2
set_option maxHeartbeats 1000000
namespace L2
open PySem PySem.Spec PyProof.Rows
section
variable {prog:Program} {w:World} {A:Around} {E:Value->Shared->Prop} {s:Shared}
end
section
variable {X:Cx}
end
end L2
namespace L2
open PySem PySem.Spec PyProof.Rows
section
variable {X:Cx} {e st:Expr} {te:TE} {ts:TO} {pos p2:Pos}
end
end L2
set_option maxHeartbeats 4000000
namespace My
open PySem PySem.Spec PyProof.Rows L2 XL
noncomputable def bo:List Nat:=[97,98,99,100,101,102,103,104,105,106,107,108,109,110,111,112,113,114,115,116,117,118,119,120,121,122]
noncomputable def kD:List Nat:=[65,66,67,68,69,70,71,72,73,74,75,76,77,78,79,80,81,82,83,84,85,86,87,88,89,90]
def Lt (c:Nat):Prop:=c∈bo\/c∈kD
noncomputable instance (c:Nat):Decidable (Lt c):=by unfold Lt;infer_instance
noncomputable def bL (c:Nat):Nat:=if cE c=true then PyProof.Rows.up1 c else PyProof.Rows.lo1 c
theorem qe: ∀c∈bo++kD,c<128/\bL c∈bo++kD/\bL (bL c)=c/\bL c≠c:=by decide+kernel
theorem Lt.mem {c:Nat} (h:Lt c):c∈bo++kD:=List.mem_append.mpr h
theorem Lt.lt {c:Nat} (h:Lt c):c<128:=(qe c h.mem).1
theorem Lt.bL {c:Nat} (h:Lt c):Lt (bL c):=List.mem_append.mp (qe c h.mem).2.1
theorem cN {c:Nat} (h:Lt c):bL (bL c)=c:=(qe c h.mem).2.2.1
theorem Hz {c:Nat} (h:Lt c):bL c≠c:=(qe c h.mem).2.2.2
theorem Dx {a b:Nat} (ha:Lt a) (hb:Lt b) (e:My.bL a=My.bL b):a=b:=by rw[<-cN ha,e,cN hb]
theorem rO: ∀c∈bo,m9 kD ((bo.idxOf c:Nat):Int)=some (bL c):=by decide+kernel
theorem xJ: ∀c∈kD,m9 bo ((kD.idxOf c:Nat):Int)=some (bL c):=by decide+kernel
def aI (b:Addr) (H H':Hp):Prop:= ∀c o,H c=some o->c≠b->H' c=some o
theorem aI.refl (b:Addr) (H:Hp):aI b H H:=fun _ _ h _=>h
theorem aI.trans {b:Addr} {H H1 H2:Hp} (x:aI b H H1) (y:aI b H1 H2):aI b H H2:=fun c o h n=>y c o (x c o h n) n
theorem aI.of {b:Addr} {H H':Hp} (x:ai H H'):aI b H H':=fun c o h _=>x c o h
theorem aI.upd (b:Addr) (H:Hp) (o:HO):aI b H (upd H b o):=fun c o h n=>by rw[aj n];exact h
theorem ai.upd {H:Hp} {p:Addr} {o:HO} (h:H p=none):ai H (L2.upd H p o):=fun c u e=>by rw[aj (ao e h)];exact e
def bD (H:Hp) (b:Addr):Prop:= ∃x y:Int,H b=some (.lst [.int x, .int y])
theorem bD.same {H H':Hp} {b:Addr} (h:bD H b) (s:ai H H'):bD H' b:=let ⟨x,y,e⟩:=h;⟨x,y,s _ _ e⟩
structure Yd (y:List Nat):Prop where
 nd:y.Nodup
 lt: ∀c∈y,Lt c
 cl: ∀c∈y,bL c∈y
def kZ (_:PySem.W.Frag):Sp:=fun vs H Q _=> ∃c,vs=[.str (S [c])]/\c<128/\Q (.str (S [bL c])) H
theorem qg {K:PySem.W.Frag} {vs:List V} {H:Hp} {Q:VK} {E:XK} (h:kZ K vs H Q E):vs.length=1:=by obtain ⟨c,rfl,_⟩:=h;rfl
def oK (_:PySem.W.Frag):Sp:=fun vs H Q _=> ∃c,vs=[.str (S [c])]/\Lt c/\Q (.str (S [bL c])) H
theorem uI {K:PySem.W.Frag} {vs:List V} {H:Hp} {Q:VK} {E:XK} (h:oK K vs H Q E):vs.length=1:=by obtain ⟨c,rfl,_⟩:=h;rfl
def wa (K:PySem.W.Frag):Sp:=fun vs H Q _=> ∃(a:Addr) (ns:List Int) (k:Nat),vs=[.ref a, .int k]/\aJ K H a (ns.map V.int)/\k<=1000/\ ∀b H',H b=none->bD H' b->ai H H'->Q (.ref b) H'
theorem AJ {K:PySem.W.Frag} {vs:List V} {H:Hp} {Q:VK} {E:XK} (h:wa K vs H Q E):vs.length=2:=by obtain ⟨a,ns,k,rfl,_⟩:=h;rfl
def rP (_:PySem.W.Frag):Sp:=fun vs H Q _=> ∃(b:Addr) (m:Int),vs=[.ref b, .int m]/\bD H b/\1<=m/\m<1000000/\ ∀(r:Nat) H',(r:Int)<m->bD H' b->aI b H H'->Q (.int r) H'
theorem xK {K:PySem.W.Frag} {vs:List V} {H:Hp} {Q:VK} {E:XK} (h:rP K vs H Q E):vs.length=2:=by obtain ⟨b,m,rfl,_⟩:=h;rfl
def rQ (_:PySem.W.Frag):Sp:=fun vs H Q _=> ∃(b:Addr) (kX top:Nat),vs=[.ref b, .int kX, .int top]/\bD H b/\1<=kX/\kX<=top/\top<=8/\ ∀(y:List Nat) H',Yd y->2*kX<=y.length->y.length<=2*top->bD H' b->aI b H H'->Q (.str (S y)) H'
theorem xM {K:PySem.W.Frag} {vs:List V} {H:Hp} {Q:VK} {E:XK} (h:rQ K vs H Q E):vs.length=3:=by obtain ⟨b,m,t,rfl,_⟩:=h;rfl
def rR (_:PySem.W.Frag):Sp:=fun vs H Q _=> ∃(b:Addr) (y:List Nat) (top:Nat),vs=[.ref b, .str (S y), .int top]/\bD H b/\y≠[]/\y.length<=1000/\top<=1000/\ ∀(l:List Nat) H',(∀c∈l,c∈y)->l.length<=top->bD H' b->aI b H H'->Q (.str (S l)) H'
theorem xN {K:PySem.W.Frag} {vs:List V} {H:Hp} {Q:VK} {E:XK} (h:rR K vs H Q E):vs.length=3:=by obtain ⟨b,m,t,rfl,_⟩:=h;rfl
def ku (K:PySem.W.Frag):Sp:=fun vs H Q _=> ∃(a:Addr) (ns:List Int),vs=[.ref a]/\aJ K H a (ns.map V.int)/\ns.length<=63/\ ∀H',Q (.bl true) H'
theorem Dy {K:PySem.W.Frag} {vs:List V} {H:Hp} {Q:VK} {E:XK} (h:ku K vs H Q E):vs.length=1:=by obtain ⟨b,m,rfl,_⟩:=h;rfl
theorem wb: ∀l:List Nat,(l.map fun c=>[c]).flatten=l
 | []=>rfl
 | c::l=>by rw[List.map_cons,List.flatten_cons,wb l];rfl
theorem Dz: ∀l:List Nat,((l.map fun c=>[c]).map List.length).sum=l.length
 | []=>rfl
 | c::l=>by
  rw[List.map_cons,List.map_cons,List.sum_cons,Dz l]
  show 1+l.length=l.length+1
  omega
theorem gn (l:List Nat):bO l=(l.map fun c=>[c]).map fun l=>V.str (S l):=by unfold bO;rw[List.map_map];rfl
theorem j5 (l:List Nat) (c:Nat):bO l++[V.str (S [c])]=bO (l++[c]):=by unfold bO;rw[List.map_append];rfl
theorem take_snoc {α:Type} {l:List α} {i:Nat} {x:α} (h:l[i]? =some x):l.take i++[x]=l.take (i+1):=by rw[List.take_add_one,h];rfl
theorem we {ns:List Int} {i:Nat} (h:i<ns.length): ∃z,(ns.map V.int)[i]? =some (V.int z):=⟨ns[i],by rw[List.getElem?_map,List.getElem?_eq_getElem h];rfl⟩
theorem fR {σ:L2.St} {H:Hp} {A B:Hp->Prop} (h:A H):KO σ H fun b H3=>if b=true then A H3 else B H3:=by
 show (if true=true then A H else B H)
 rw[if_pos rfl]
 exact h
theorem uJ (b:Bool) (z:Int): ∃y,m9 [V.int 0,V.int z] (if b=true then 1 else 0)=some (V.int y):=by
 cases b
 ·exact ⟨0,rfl⟩
 ·exact ⟨z,rfl⟩
theorem fG {α:Type}: ∀{l:List α} {i:Nat} {x:α},l[i]? =some x->(x::l.eraseIdx i).Perm l
 | [],i,x,h=>by simp at h
 | a::l,0,x,h=>by
  have:a=x:=by simpa using h
  subst this
  exact List.Perm.refl _
 | a::l,i+1,x,h=>by
  have ih:=fG (l:=l) (i:=i) (x:=x) (by simpa using h)
  rw[List.eraseIdx_cons_succ]
  exact (List.Perm.swap a x _).trans (List.Perm.cons a ih)
theorem oM (l:List Nat) (i:Nat):(bO l).eraseIdx i=bO (l.eraseIdx i):=by
 unfold bO
 induction l generalizing i with
 | nil=>rfl
 | cons a l ih=>
  cases i with
  | zero=>rfl
  | succ i=>rw[List.map_cons,List.eraseIdx_cons_succ,ih,List.eraseIdx_cons_succ,List.map_cons]
theorem AK {l:List Nat} {i:Nat} (h:i<l.length):(bO l)[i]? =some (V.str (S [l[i]])):=by unfold bO;rw[List.getElem?_map,List.getElem?_eq_getElem h];rfl
theorem DA (a b:List Nat):bO a++bO b=bO (a++b):=by unfold bO;rw[List.map_append]
theorem xO: ∀c∈bo,bL c∉bo:=by decide+kernel
theorem xP:bo.Nodup:=by decide+kernel
theorem Yd.perm {a b:List Nat} (h:Yd a) (p:a.Perm b):Yd b:=
 ⟨p.nodup_iff.mp h.nd,fun c hc=>h.lt c (p.mem_iff.mpr hc),fun c hc=>p.mem_iff.mp (h.cl c (p.mem_iff.mpr hc))⟩
structure HJ (i:Nat) (L E:List Nat):Prop where
 yd:Yd E
 nd:L.Nodup
 sm: ∀c∈L,c∈bo
 ap: ∀c∈L,c∉E
 ll:L.length=26 - i
 el:E.length=2*i
theorem HJ.start:HJ 0 bo []:=⟨⟨List.nodup_nil,fun _ h=>absurd h List.not_mem_nil,fun _ h=>absurd h List.not_mem_nil⟩,xP,fun _ h=>h,fun _ _ h=>absurd h List.not_mem_nil,rfl,rfl⟩
theorem HJ.turn {i r:Nat} {L E:List Nat} (w:HJ i L E) (hi:i<26) (hr:r<L.length):HJ (i+1) (L.eraseIdx r) (E++[L[r],bL L[r]]):=by
 have hp:=fG (l:=L) (List.getElem?_eq_getElem hr)
 have hm:L[r]∈L:=List.getElem_mem hr
 have hs:=w.sm _ hm
 have hl:Lt L[r]:= .inl hs
 have Vx:=hp.nodup_iff.mpr w.nd
 have sub: ∀c∈L.eraseIdx r,c∈L:=fun c hc=>hp.mem_iff.mp (List.mem_cons_of_mem _ hc)
 have Vy:=w.ap _ hm
 have Yl:bL L[r]∉E:=fun z=>Vy (by have:=w.yd.cl _ z;rwa [cN hl]at this)
 refine ⟨⟨?_,fun c hc=>?_,fun c hc=>?_⟩,(List.nodup_cons.mp Vx).2,fun c hc=>w.sm c (sub c hc),fun c hc hE=>?_,?_,?_⟩
 ·rw[List.nodup_append]
  refine ⟨w.yd.nd,?_,fun a ha b hb z=>?_⟩
  ·rw[List.nodup_cons]
   refine ⟨fun z=>(Hz hl) (List.mem_singleton.mp z).symm,List.nodup_cons.mpr ⟨List.not_mem_nil,List.nodup_nil⟩⟩
  ·subst z
   rcases List.mem_cons.mp hb with z | z
   ·exact Vy (z▸ha)
   ·exact Yl (List.mem_singleton.mp z▸ha)
 ·rcases List.mem_append.mp hc with z | z
  ·exact w.yd.lt c z
  ·rcases List.mem_cons.mp z with z | z
   ·rw[z];exact hl
   ·rw[List.mem_singleton.mp z];exact hl.bL
 ·rcases List.mem_append.mp hc with z | z
  ·exact List.mem_append_left _ (w.yd.cl c z)
  ·refine List.mem_append_right _ ?_
   rcases List.mem_cons.mp z with z | z
   ·rw[z];exact List.mem_cons_of_mem _ (List.mem_singleton.mpr rfl)
   ·rw[List.mem_singleton.mp z,cN hl];exact List.mem_cons_self
 ·rcases List.mem_append.mp hE with z | z
  ·exact w.ap c (sub c hc) z
  ·rcases List.mem_cons.mp z with z | z
   ·exact (List.nodup_cons.mp Vx).1 (z▸hc)
   ·have e:c=bL L[r]:=List.mem_singleton.mp z
    exact xO _ hs (e▸w.sm c (sub c hc))
 ·have:=hp.length_eq
  rw[List.length_cons,w.ll]at this
  omega
 ·rw[List.length_append,w.el]
  show 2*i+2=_
  omega
theorem aI.dY {b p:Addr} {H H':Hp} {o:HO} (h:aI b H H') (n:H p=none):aI b H (L2.upd H' p o):=fun c u e z=>by rw[aj (ao e n)];exact h c u e z
theorem bD.dY {b p:Addr} {H:Hp} {o:HO} (h:bD H b) (n:p≠b):bD (L2.upd H p o) b:=let ⟨x,y,e⟩:=h;⟨x,y,by rw[aj (Ne.symm n)];exact e⟩
theorem aI.none {b p:Addr} {H H':Hp} (h:aI b H H') (n:H' p=none) (z:p≠b):H p=none:=by
 cases q:H p with
 | none=>rfl
 | some o=>rw[h p o q z]at n;cases n
theorem bD.ne {b p:Addr} {H:Hp} (h:bD H b) (n:H p=none):p≠b:=fun z=>by obtain ⟨x,y,e⟩:=h;rw[<-z,n]at e;cases e
theorem a_ {c:Bool} {A B:Prop} (h:c=false) (hB:B):if c=true then A else B:=by rw[h];exact pS hB
theorem aT {c:Bool} {A B:Prop} (h:c=true) (hA:A):if c=true then A else B:=by rw[h];exact P_ hA
theorem rS (a:List Nat):a.take (bO a).length=a:=by rw[aU];exact List.take_of_length_le (Nat.le_refl _)
theorem aI.same {b:Addr} {H H2 H3:Hp} (n:H b=Option.none) (s:ai H H2) (t:aI b H2 H3):ai H H3:=fun c o e=>t c o (s c o e) (ao e n)
theorem aI.after {p:Addr} {H H1 H2:Hp} (s:aI p H H1) (t:ai H1 H2):aI p H H2:=fun c o e z=>t c o (s c o e z)
noncomputable def bX (ws:List (List Nat)):List V:=ws.map fun l=>V.str (S l)
theorem bh (ws:List (List Nat)):(bX ws).length=ws.length:=by unfold bX;rw[List.length_map]
theorem rT (ws:List (List Nat)) (l:List Nat):bX ws++[V.str (S l)]=bX (ws++[l]):=by unfold bX;rw[List.map_append];rfl
theorem uK {ws:List (List Nat)} {i:Nat} (h:i<ws.length):(bX ws)[i]? =some (V.str (S ws[i])):=by unfold bX;rw[List.getElem?_map,List.getElem?_eq_getElem h];rfl
noncomputable def LN (st:List Nat) (c:Nat):List Nat:=if st.getLast? =some (bL c) then st.dropLast else st++[c]
noncomputable def red (l:List Nat):List Nat:=l.foldl LN []
noncomputable def strip:Nat->List Nat->List Nat
 | 0,l=>l
 | n+1,l=>match l with
  | []=>[]
  | [a]=>[a]
  | a::b::r=>if a=bL ((b::r).getLast (by simp)) then strip n (b::r).dropLast else a::b::r
noncomputable def core (l:List Nat):List Nat:=strip l.length l
theorem uL {α:Type} (l:List α) (k:Nat):cut l none (some (k:Int))=l.take k:=by
 unfold cut
 rw[HT.qS,HT.vF,List.drop_zero,Nat.sub_zero]
 by_cases h:k<=l.length
 ·rw[Nat.min_eq_left h]
 ·rw[Nat.min_eq_right (by omega),List.take_of_length_le (Nat.le_refl _),List.take_of_length_le (by omega)]
theorem gp {α:Type} (l:List α) (k:Nat):cut l (some (k:Int)) none=l.drop k:=by
 unfold cut
 rw[HT.qS,HT.vF]
 by_cases h:k<=l.length
 ·rw[Nat.min_eq_left h,List.take_of_length_le (by rw[List.length_drop];exact Nat.le_refl _)]
 ·rw[Nat.min_eq_right (by omega),List.drop_of_length_le (Nat.le_refl _),List.drop_of_length_le (by omega)]
  simp
noncomputable def fH (ks:List Nat):List V:=ks.map fun (k:Nat)=>V.int k
noncomputable def ids (ks:List Nat):List PyData:=ks.map fun (k:Nat)=>PyData.int k
theorem kE {K:PySem.W.Frag} {H:Hp}: ∀ks:List Nat,gj K H (fH ks) (ids ks)
 | []=> .nil
 | k::ks=> .cons (.int _) (kE ks)
theorem lay_ints: ∀ks:List Nat,PyData.canLayAll0 (ids ks)=true
 | []=>rfl
 | k::ks=>by show (PyData.canLay0 (.int _)&&PyData.canLayAll0 (ids ks))=true;rw[lay_ints ks];rfl
theorem mB: ∀ks:List Nat,PyData.depthAll (ids ks)=0
 | []=>rfl
 | k::ks=>by show max (PyData.depth (.int _)) (PyData.depthAll (ids ks))=0;rw[mB ks];rfl
noncomputable def HK (ws:List (List Nat)):List PyData:=ws.map fun l=>PyData.str (S l)
theorem rU {K:PySem.W.Frag} {H:Hp}: ∀ws:List (List Nat),gj K H (bX ws) (HK ws)
 | []=> .nil
 | w::ws=> .cons (.str _) (rU ws)
mutual
theorem eqv_refl: ∀d:PyData,d.hasDict=false->PyData.eqv d d=true
 | .none,_=>rfl
 | .bool b,_=>by simp[PyData.eqv]
 | .int i,_=>by simp[PyData.eqv]
 | .str x,_=>by simp[PyData.eqv]
 | .list xs,h=>by show PyData.eqvAll xs xs=true;exact eqvAll_refl xs (by simpa [PyData.hasDict]using h)
 | .tuple xs,h=>by show PyData.eqvAll xs xs=true;exact eqvAll_refl xs (by simpa [PyData.hasDict]using h)
 | .dict kvs,h=>by simp[PyData.hasDict]at h
theorem eqvAll_refl: ∀ds:List PyData,PyData.hasDictAll ds=false->PyData.eqvAll ds ds=true
 | [],_=>rfl
 | d::ds,h=>by
  simp[PyData.hasDictAll]at h
  show (PyData.eqv d d&&PyData.eqvAll ds ds)=true
  rw[eqv_refl d h.1,eqvAll_refl ds h.2]
  rfl
end
noncomputable def Ym (c:List Nat) (k:Nat):List Nat:=c.drop k++c.take k
noncomputable def QD (c:List Nat) (n:Nat):List (List Nat):=(List.range n).map fun k=>Ym c (k+1)
noncomputable def LO (c:List Nat):List Nat:=vL c (QD c (c.length - 1))
@[irreducible] noncomputable def Vz (w:List Nat):List Nat:=LO (core (red w))
theorem LP {l:List Nat} (h:l.Nodup) {i j:Nat} (hi:i<l.length) (hj:j<l.length) (e:l[i]=l[j]):i=j:=by
 have hp:=List.pairwise_iff_getElem.mp h
 rcases Nat.lt_trichotomy i j with z | z | z
 ·exact absurd e (hp i j hi hj z)
 ·exact z
 ·exact absurd e.symm (hp j i hj hi z)
theorem bM: ∀c∈bo,cE c=true/\PyProof.Rows.lo1 c=c/\bL c∈kD:=by decide+kernel
theorem df: ∀c∈kD,cE c=false/\PyProof.Rows.lo1 c=bL c/\c∉bo/\bL c∈bo:=by decide+kernel
theorem oN: ∀c∈kD,c∉bo:=by decide+kernel
theorem iO {c:Nat} (h:Lt c):cE c=decide (c∈bo):=by
 rcases h with h | h
 ·rw[(bM c h).1,decide_eq_true h]
 ·rw[(df c h).1,decide_eq_false (df c h).2.2.1]
noncomputable def kept (sm:List Nat) (c:Nat):Bool:=decide (PyProof.Rows.lo1 c∈sm)
def VA (i j k:Nat):Prop:=(i<j/\j<k)\/(j<k/\k<i)\/(k<i/\i<j)
noncomputable instance (i j k:Nat):Decidable (VA i j k):=by unfold VA;infer_instance
theorem xQ {a b:List Nat} (h:a.Perm b) (ha:a.Pairwise (· <= ·)) (hb:b.Pairwise (· <= ·)):a=b:=
 List.Perm.eq_of_pairwise (le:=fun x y=>x<=y) (fun _ _ _ _ h1 h2=>Nat.le_antisymm h1 h2) ha hb h
def rV (_:PySem.W.Frag):Sp:=fun vs H Q _=> ∃l:List Nat,vs=[.str (S l)]/\(∀c∈l,c<128)/\l.length<64/\ ∀l' H',l'.Perm (l.filter cE)->l'.Pairwise (· <= ·)->ai H H'->Q (.str (S l')) H'
theorem xR {K:PySem.W.Frag} {vs:List V} {H:Hp} {Q:VK} {E:XK} (h:rV K vs H Q E):vs.length=1:=by obtain ⟨c,rfl,_⟩:=h;rfl
def oP (_:PySem.W.Frag):Sp:=fun vs H Q _=> ∃y:List Nat,vs=[.str (S y)]/\y.length<64/\ ∀q l' H',H q=none->H' q=some (.lst (bO l'))->l'.Perm (y.filter fun c=>decide (c∈bo))->l'.Pairwise (· <= ·)->ai H H'->Q (.ref q) H'
theorem uM {K:PySem.W.Frag} {vs:List V} {H:Hp} {Q:VK} {E:XK} (h:oP K vs H Q E):vs.length=1:=by obtain ⟨c,rfl,_⟩:=h;rfl
theorem k_ {p:Nat->Bool} {l:List Nat} {i c:Nat} (h:l[i]? =some c):(l.take (i+1)).filter p=(l.take i).filter p++if p c=true then [c] else []:=by
 rw[<-take_snoc h,List.filter_append]
 congr 1
 by_cases z:p c=true
 ·rw[if_pos z,List.filter_cons_of_pos z];rfl
 ·rw[if_neg z,List.filter_cons_of_neg z];rfl
theorem AL {y:List Nat} (h:Yd y):2*(y.filter cE).length=y.length:=by
 have key: ∀p q:Nat->Bool,(∀c∈y,p c=true->q (bL c)=true)->(y.filter p).length<=(y.filter q).length:=fun p q Yn=>by
  have hn:((y.filter p).map bL).Nodup:=by
   show ((y.filter p).map bL).Pairwise (· ≠ ·)
   rw[List.pairwise_map]
   refine (h.nd.filter p).imp_of_mem fun {a b} ha hb z e=>z ?_
   exact Dx (h.lt a (List.mem_filter.mp ha).1) (h.lt b (List.mem_filter.mp hb).1) e
  have:=hn.length_le_of_subset (l₂:=y.filter q) fun c hc=>by
   obtain ⟨d,hd,rfl⟩:=List.mem_map.mp hc
   obtain ⟨d1,d2⟩:=List.mem_filter.mp hd
   exact List.mem_filter.mpr ⟨h.cl d d1,Yn d d1 d2⟩
  rwa [List.length_map]at this
 have k1:=key cE (fun c=>!cE c) fun c hc z=>by
  rw[iO (h.lt c hc)]at z
  have hs:=of_decide_eq_true z
  rw[(df _ (bM c hs).2.2).1];rfl
 have k2:=key (fun c=>!cE c) cE fun c hc z=>by
  rcases h.lt c hc with q | q
  ·rw[(bM c q).1]at z;cases z
  ·exact (bM _ (df c q).2.2.2).1
 have k3:(y.filter cE).length+(y.filter fun c=>!cE c).length=y.length:=by
  clear k1 k2 key h
  induction y with
  | nil=>rfl
  | cons a r ih=>
   cases hq:cE a
   ·rw[List.filter_cons_of_neg (by simp[hq]),List.filter_cons_of_pos (by simp[hq]),List.length_cons,List.length_cons];omega
   ·rw[List.filter_cons_of_pos hq,List.filter_cons_of_neg (by simp[hq]),List.length_cons,List.length_cons];omega
 omega
noncomputable def aq (y:List Nat):List Nat:=(y.filter cE).mergeSort fun a b=>decide (a<=b)
theorem dq (y:List Nat):(aq y).Perm (y.filter cE):=List.mergeSort_perm _ _
theorem rW (y:List Nat):(aq y).Pairwise (· <= ·):=
 (List.pairwise_mergeSort (le:=fun a b=>decide (a<=b)) (fun a b c h1 h2=>decide_eq_true (Nat.le_trans (of_decide_eq_true h1) (of_decide_eq_true h2))) (fun a b=>by
  rcases Nat.le_total a b with z | z
  ·rw[decide_eq_true z];rfl
  ·rw[decide_eq_true z,Bool.or_true]) (y.filter cE)).imp fun z=>of_decide_eq_true z
theorem fS {y l:List Nat} (h:l.Perm (y.filter cE)) (p:l.Pairwise (· <= ·)):l=aq y:=xQ (h.trans (dq y).symm) p (rW y)
theorem eA {y:List Nat} (h: ∀c∈y,Lt c):(y.filter fun c=>decide (c∈bo))=y.filter cE:=List.filter_congr fun c hc=>(iO (h c hc)).symm
theorem mC {y:List Nat} (h:Yd y) {e:Nat} (he:e∈y):PyProof.Rows.lo1 e∈aq y:=by
 refine (dq y).mem_iff.mpr (List.mem_filter.mpr ?_)
 rcases h.lt e he with z | z
 ·rw[(bM e z).2.1];exact ⟨he,(bM e z).1⟩
 ·rw[(df e z).2.1];exact ⟨h.cl e he,(bM _ (df e z).2.2.2).1⟩
theorem cK {y:List Nat} (h:Yd y):2*(aq y).length=y.length:=by rw[(dq y).length_eq];exact AL h
structure Pr where
 t:Addr
 c:Nat
 i:Nat
noncomputable def de (ps:List Pr):List V:=ps.map fun p=>V.ref p.t
theorem bg (ps:List Pr):(de ps).length=ps.length:=by unfold de;rw[List.length_map]
theorem wg (a b:List Pr):de a++de b=de (a++b):=by unfold de;rw[List.map_append]
theorem ir (a:List Pr) (p:Pr):de a++[V.ref p.t]=de (a++[p]):=by unfold de;rw[List.map_append];rfl
theorem AM {ps:List Pr} {i:Nat} {x:V} (h:(de ps)[i]? =some x): ∃p,ps[i]? =some p/\x=V.ref p.t:=by
 unfold de at h
 rw[List.getElem?_map]at h
 cases e:ps[i]? with
 | none=>rw[e]at h;cases h
 | some p=>rw[e]at h;cases h;exact ⟨p,rfl,rfl⟩
structure f_ (H:Hp) (p:Pr):Prop where
 tp:H p.t=some (.tup [.int p.c, .int p.i])
 cz:p.c<1000
 iz:p.i<1000
theorem f_.same {H H':Hp} {p:Pr} (h:f_ H p) (s:ai H H'):f_ H' p:=⟨s _ _ h.tp,h.cz,h.iz⟩
structure Od where
 o:Addr
 ps:List Pr
structure gI (H:Hp) (o:Od):Prop where
 tp:H o.o=some (.tup (de o.ps))
 pr: ∀p∈o.ps,f_ H p
 fw:o.ps.length<=200
theorem gI.same {H H':Hp} {o:Od} (h:gI H o) (s:ai H H'):gI H' o:=⟨s _ _ h.tp,fun p hp=>(h.pr p hp).same s,h.fw⟩
noncomputable def lG (os:List Od):List V:=os.map fun o=>V.ref o.o
theorem j6 (os:List Od):(lG os).length=os.length:=by unfold lG;rw[List.length_map]
theorem mD (a:List Od) (p:Od):lG a++[V.ref p.o]=lG (a++[p]):=by unfold lG;rw[List.map_append];rfl
theorem kF {os:List Od} {i:Nat} {o:Od} (h:os[i]? =some o):(lG os)[i]? =some (V.ref o.o):=by unfold lG;rw[List.getElem?_map,h];rfl
structure e_ (H:Hp) (dr:Addr) (ws:List (List Nat)) (os:List Od):Prop where
 ex: ∃wt ot,H dr=some (.tup [.ref wt, .ref ot])/\H wt=some (.tup (bX ws))/\H ot=some (.tup (lG os))
 od: ∀o∈os,gI H o
theorem e_.same {H H':Hp} {dr:Addr} {ws:List (List Nat)} {os:List Od} (h:e_ H dr ws os) (s:ai H H'):e_ H' dr ws os:=by
 obtain ⟨⟨wt,ot,h1,h2,h3⟩,g⟩:=h
 exact ⟨⟨wt,ot,s _ _ h1,s _ _ h2,s _ _ h3⟩,fun o ho=>(g o ho).same s⟩
structure Pt where
 t:Addr
 c:Nat
 i:Nat
 e:Nat
noncomputable def Pt.is (p:Pt):Nat×Nat×Nat:=(p.c,p.i,p.e)
structure Yo (H:Hp) (p:Pt):Prop where
 tp:H p.t=some (.tup [.int p.c, .int p.i, .str (S [p.e])])
 cz:p.c<1000
 iz:p.i<1000
 ez:p.e<128
def AN (K:PySem.W.Frag) (H:Hp) (x:V) (ys:List V):Prop:=(∃p,x= .ref p/\(aJ K H p ys\/aN K H p ys))\/ ∃l:List Nat,x= .str (S l)/\ys=bO l
def oQ (K:PySem.W.Frag):Sp:=fun vs H Q _=> ∃(b:Addr) (x:V) (ys:List V),vs=[.ref b,x]/\bD H b/\AN K H x ys/\ys.length<=1000/\ ∀q VC H',H q=none->q≠b->H' q=some (.lst VC)->VC.Perm ys->bD H' b->aI b H H'->Q (.ref q) H'
theorem uN {K:PySem.W.Frag} {vs:List V} {H:Hp} {Q:VK} {E:XK} (h:oQ K vs H Q E):vs.length=2:=by obtain ⟨c,_,_,rfl,_⟩:=h;rfl
theorem uO {α β:Type} {f:α->β} {ys zs:List β} (h:ys.Perm zs): ∀l:List α,zs=l.map f-> ∃l':List α,ys=l'.map f/\l'.Perm l:=by
 induction h with
 | nil=>intro l e;cases l with
  | nil=>exact ⟨[],rfl,List.Perm.refl _⟩
  | cons a l=>cases e
 | cons x h ih=>
  intro l e
  cases l with
  | nil=>cases e
  | cons a l=>
   injection e with e1 e2
   obtain ⟨l',g1,g2⟩:=ih l e2
   exact ⟨a::l',by rw[g1,e1];rfl,g2.cons a⟩
 | swap x y t=>
  intro l e
  cases l with
  | nil=>cases e
  | cons a l=>
   cases l with
   | nil=>cases e
   | cons b l=>
    injection e with e1 e2
    injection e2 with e2 e3
    exact ⟨b::a::l,by rw[e1,e2,e3];rfl,List.Perm.swap a b l⟩
 | trans h1 h2 i1 i2=>
  intro l e
  obtain ⟨l1,g1,g2⟩:=i2 l e
  obtain ⟨l2,g3,g4⟩:=i1 l1 g1
  exact ⟨l2,g3,g4.trans g2⟩
noncomputable def Pr.pair (p:Pr):Nat×Nat:=(p.c,p.i)
noncomputable def uP (band l:Nat):Bool:=decide (l=band)||decide (l=bL band)
noncomputable def iu (band c:Nat) (w:List Nat) (n:Nat):List (Nat×Nat):=((List.range n).filter fun i=>uP band (w.getD i 0)).map fun i=>(c,i)
noncomputable def cG (band:Nat) (ws:List (List Nat)) (n:Nat):List (Nat×Nat):=(List.range n).flatMap fun c=>iu band c (ws.getD c []) (ws.getD c []).length
theorem uQ {band c i l:Nat} {w:List Nat} (h:w[i]? =some l):iu band c w (i+1)=iu band c w i++if uP band l=true then [(c,i)] else []:=by
 have e:w.getD i 0=l:=by rw[List.getD_eq_getElem?_getD,h];rfl
 unfold iu
 rw[List.range_succ,List.filter_append,List.map_append]
 congr 1
 by_cases z:uP band l=true
 ·rw[if_pos z,List.filter_cons_of_pos (by rw[e];exact z)];rfl
 ·rw[if_neg z,List.filter_cons_of_neg (by rw[e];exact z)];rfl
theorem la {band i:Nat} {ws:List (List Nat)} {w:List Nat} (h:ws[i]? =some w):cG band ws (i+1)=cG band ws i++iu band i w w.length:=by
 have e:ws.getD i []=w:=by rw[List.getD_eq_getElem?_getD,h];rfl
 unfold cG
 rw[List.range_succ,List.flatMap_append]
 congr 1
 rw[List.flatMap_cons,List.flatMap_nil,List.append_nil,e]
theorem xS (band c:Nat) (w:List Nat) (n:Nat):(iu band c w n).length<=n:=by
 unfold iu
 rw[List.length_map]
 exact Nat.le_trans (List.length_filter_le _ _) (by rw[List.length_range];exact Nat.le_refl _)
structure xT (y:List Nat) (ws:List (List Nat)):Prop where
 kX:ws.length<=4
 all: ∀w∈ws,(∀c∈w,c∈y)/\w.length<=40
def HL (y:List Nat) (ws:List (List Nat)) (os:List Od):Prop:=os.length=(aq y).length/\ ∀(j:Nat) (o:Od) (b:Nat),os[j]? =some o->(aq y)[j]? =some b->(o.ps.map Pr.pair).Perm (cG b ws ws.length)
def lb (_:PySem.W.Frag):Sp:=fun vs H Q _=> ∃(b:Addr) (y:List Nat) (wt:Addr) (ws:List (List Nat)),vs=[.ref b, .str (S y), .ref wt]/\bD H b/\Yd y/\y.length<=8/\wt≠b/\H wt=some (.tup (bX ws))/\xT y ws/\ ∀(dr:Addr) (os:List Od) (H':Hp),e_ H' dr ws os->HL y ws os->bD H' b->aI b H H'->Q (.ref dr) H'
theorem qh {K:PySem.W.Frag} {vs:List V} {H:Hp} {Q:VK} {E:XK} (h:lb K vs H Q E):vs.length=3:=by obtain ⟨c,_,_,_,rfl,_⟩:=h;rfl
theorem aC.box {H H':Hp} {b:Addr} (h:bD H b) (s:aI b H H'):aC H H':=fun c xs e=>s c _ e fun z=>by
 obtain ⟨x,y,g⟩:=h
 rw[z,g]at e;cases e
theorem f_.ts {H H':Hp} {p:Pr} (h:f_ H p) (s:aC H H'):f_ H' p:=⟨s _ _ h.tp,h.cz,h.iz⟩
theorem gI.ts {H H':Hp} {o:Od} (h:gI H o) (s:aC H H'):gI H' o:=⟨s _ _ h.tp,fun p hp=>(h.pr p hp).ts s,h.fw⟩
theorem e_.ts {H H':Hp} {dr:Addr} {ws:List (List Nat)} {os:List Od} (h:e_ H dr ws os) (s:aC H H'):e_ H' dr ws os:=by
 obtain ⟨⟨wt,ot,h1,h2,h3⟩,g⟩:=h
 exact ⟨⟨wt,ot,s _ _ h1,s _ _ h2,s _ _ h3⟩,fun o ho=>(g o ho).ts s⟩
theorem qj {band l:Nat} (hb:band∈bo) (hl:Lt l):decide (PyProof.Rows.lo1 l=band)=uP band l:=by
 unfold uP
 rcases hl with h | h
 ·have e:=(bM l h).2.1
  have n:l≠bL band:=fun z=>oN _ (bM band hb).2.2 (z▸h)
  rw[e,decide_eq_false n,Bool.or_false]
 ·have e:=(df l h).2.1
  have n:l≠band:=fun z=>oN l h (z▸hb)
  rw[e,decide_eq_false n,Bool.false_or]
  refine decide_eq_decide.mpr ⟨fun z=>by rw[<-z,cN (.inr h)],fun z=>by rw[z,cN (.inl hb)]⟩
noncomputable def pz (p:Nat×Nat):Int×Int:=(p.1,p.2)
theorem ju (band:Nat) {ws:List (List Nat)} (hw: ∀w∈ws,w.length<=40): ∀n,n<=ws.length->(cG band ws n).length<=40*n
 | 0,_=>Nat.le_refl _
 | n+1,h=>by
  have hn:n<ws.length:=by omega
  rw[la (List.getElem?_eq_getElem hn),List.length_append]
  have h1:=ju band hw n (by omega)
  have h2:=xS band n ws[n] ws[n].length
  have h3:=hw _ (List.getElem_mem hn)
  omega
noncomputable def xU (p:Nat×Nat):PyData:= .tuple [.int p.1, .int p.2]
theorem mE {K:PySem.W.Frag} {H:Hp}: ∀{ps:List Pr},(∀p∈ps,f_ H p)->gj K H (de ps) ((ps.map Pr.pair).map xU)
 | [],_=> .nil
 | p::ps,h=> .cons (.tup (aN.of (h p List.mem_cons_self).tp) (.cons (.int _) (.cons (.int _) .nil))) (mE fun q hq=>h q (List.mem_cons_of_mem _ hq))
theorem qk {H:Hp} {ps:List Pr} (h: ∀p∈ps,f_ H p) {k:Nat}:mh (k+1) (90*ps.length) ((ps.map Pr.pair).map xU):=by
 refine .all (a:=89) (fun x hx=>?_) (by rw[List.length_map,List.length_map];omega)
 obtain ⟨q,hq,rfl⟩:=List.mem_map.mp hx
 obtain ⟨p,hp,rfl⟩:=List.mem_map.mp hq
 have ok:=h p hp
 have b1:(p.c:Int).natAbs<10 ^ 12:=by have:=ok.cz;omega
 have b2:(p.i:Int).natAbs<10 ^ 12:=by have:=ok.iz;omega
 exact .tup (.cons (a:=40) (b:=41) (.int b1 (by decide)) (.cons (a:=40) (b:=0) (.int b2 (by decide)) .nil (by decide)) (by decide))
theorem rX: ∀ns:List (Nat×Nat),PyData.hasDictAll (ns.map xU)=false
 | []=>rfl
 | n::ns=>by show (PyData.hasDict (xU n)||PyData.hasDictAll (ns.map xU))=false;rw[rX ns];rfl
noncomputable def QE (o:Od):PyData:= .tuple ((o.ps.map Pr.pair).map xU)
theorem rY {K:PySem.W.Frag} {H:Hp}: ∀{os:List Od},(∀o∈os,gI H o)->gj K H (lG os) (os.map QE)
 | [],_=> .nil
 | o::os,h=> .cons (.tup (aN.of (h o List.mem_cons_self).tp) (mE (h o List.mem_cons_self).pr)) (rY fun q hq=>h q (List.mem_cons_of_mem _ hq))
def QF (y:List Nat) (ws:List (List Nat)) (os:List Od):Prop:=os.map (fun o=>o.ps.map Pr.pair)=(aq y).map fun b=>cG b ws ws.length
theorem j7 {y:List Nat} (h:Yd y) {b:Nat} (hb:b∈aq y):b∈bo:=by
 obtain ⟨h1,h2⟩:=List.mem_filter.mp ((dq y).mem_iff.mp hb)
 rw[iO (h.lt b h1)]at h2
 exact of_decide_eq_true h2
structure Ask where
 t:Addr
 u:List Nat
 wt:Addr
 ws:List (List Nat)
 ot:Addr
 os:List Od
structure VD (H:Hp) (k:Ask):Prop where
 tp:H k.t=some (.tup [.str (S k.u), .ref k.wt, .ref k.ot])
 yd:Yd k.u
 yz:k.u.length<=8
 wo:xT k.u k.ws
 hw:H k.wt=some (.tup (bX k.ws))
 ho:H k.ot=some (.tup (lG k.os))
 od: ∀o∈k.os,gI H o
 ex:QF k.u k.ws k.os
noncomputable def kS (l:List Nat):Key:=Sum.inr (S l)
theorem eB {a b:List Nat} (h:kS a=kS b):a=b:=by rw[<-fA a,Sum.inr.inj h,fA]
structure jv (H:Hp) (o:Od):Prop where
 tp:H o.o=some (.lst (de o.ps))
 pr: ∀p∈o.ps,f_ H p
 fw:o.ps.length<=200
noncomputable def cW (bs:List Nat) (os:List Od):List (Key×V):=(bs.zip os).map fun x=>(kS [x.1],V.ref x.2.o)
structure bP (H:Hp) (d:Addr) (bs:List Nat) (os:List Od):Prop where
 dk:H d=some (.dK (cW bs os))
 ln:os.length=bs.length
 nd:(os.map Od.o).Nodup
 ok: ∀o∈os,jv H o
theorem mF {bs:List Nat} {os:List Od} (h:os.length=bs.length):(cW bs os).length=bs.length:=by unfold cW;rw[List.length_map,List.length_zip];omega
theorem oR: ∀{bs:List Nat} {os:List Od},os.length=bs.length->(cW bs os).map (fun kv=>kV kv.1)=bO bs
 | [],[],_=>rfl
 | b::bs,o::os,h=>by
  show kV (kS [b])::(cW bs os).map (fun kv=>kV kv.1)=V.str (S [b])::bO bs
  rw[oR (by simpa using h)]
  rfl
theorem c_: ∀{bs:List Nat} {os:List Od} {j:Nat} {b:Nat} {o:Od},bs.Nodup->bs[j]? =some b->os[j]? =some o->cf (cW bs os) (kS [b])=some (.ref o.o)
 | b'::bs,o'::os,0,b,o,_,hb,ho=>by
  cases hb;cases ho
  exact bT rfl
 | b'::bs,o'::os,j+1,b,o,nd,hb,ho=>by
  obtain ⟨n1,n2⟩:=List.nodup_cons.mp nd
  have gR:kS [b']≠kS [b]:=fun z=>n1 (by
   have:=List.mem_of_getElem? (show bs[j]? =some b by simpa using hb)
   rw[(List.cons.inj (eB z)).1];exact this)
  show cf ((kS [b'],V.ref o'.o)::cW bs os) (kS [b])=_
  rw[bu gR]
  exact c_ n2 (by simpa using hb) (by simpa using ho)
theorem oS: ∀{bs:List Nat} {os:List Od} {b:Nat},b∉bs->cf (cW bs os) (kS [b])=none
 | [],_,_,_=>rfl
 | _::_,[],_,_=>rfl
 | b'::bs,o'::os,b,h=>by
  show cf ((kS [b'],V.ref o'.o)::cW bs os) (kS [b])=none
  rw[bu fun z=>h (by rw[<-(List.cons.inj (eB z)).1];exact List.mem_cons_self)]
  exact oS fun z=>h (List.mem_cons_of_mem _ z)
theorem AO: ∀{bs:List Nat} {os:List Od} {j:Nat} {b:Nat} {o':Od},bs.Nodup->os.length=bs.length->bs[j]? =some b->putK (cW bs os) (kS [b]) (.ref o'.o)=cW bs (os.set j o'):=by
 intro bs os j b o' nd hl hb
 have hj:j<os.length:=by rw[hl];exact (List.getElem?_eq_some_iff.mp hb).1
 have hs:(cf (cW bs os) (kS [b])).isSome=true:=by rw[c_ nd hb (List.getElem?_eq_getElem hj)];rfl
 unfold putK
 rw[fF,if_pos hs]
 clear hs
 induction bs generalizing os j with
 | nil=>simp at hb
 | cons b0 bs ih=>
  cases os with
  | nil=>simp at hj
  | cons o0 os=>
   obtain ⟨n1,n2⟩:=List.nodup_cons.mp nd
   cases j with
   | zero=>
    have ET:b0=b:=by simpa using hb
    subst ET
    show (if kS [b0]=kS [b0] then (kS [b0],V.ref o'.o) else _)::(cW bs os).map _=(kS [b0],V.ref o'.o)::cW bs os
    rw[if_pos rfl]
    congr 1
    have: ∀kv∈cW bs os,(if kv.1=kS [b0] then (kv.1,V.ref o'.o) else kv)=kv:=fun kv Oe=>by
     unfold cW at Oe
     obtain ⟨x,hx,rfl⟩:=List.mem_map.mp Oe
     rw[if_neg]
     intro z
     have:=(List.of_mem_zip (show (x.1,x.2)∈bs.zip os from hx)).1
     rw[(List.cons.inj (eB z)).1]at this
     exact n1 this
    rw[List.map_congr_left this,List.map_id']
   | succ j=>
    have E9:bs[j]? =some b:=by simpa using hb
    have gR:kS [b0]≠kS [b]:=fun z=>n1 (by rw[(List.cons.inj (eB z)).1];exact List.mem_of_getElem? E9)
    show (if kS [b0]=kS [b] then _ else (kS [b0],V.ref o0.o))::(cW bs os).map _=(kS [b0],V.ref o0.o)::cW bs (os.set j o')
    rw[if_neg gR]
    congr 1
    exact ih n2 (by simpa using hl) E9 (by simpa using hj)
noncomputable def dZ (c:Nat) (f:Nat->Option Nat) (p:Nat×Nat):Option (Nat×Nat):=if p.1=c then (f p.2).map fun j=>(c,j) else some p
noncomputable def bZ (c:Nat) (f:Nat->Option Nat) (ps:List (Nat×Nat)):List (Nat×Nat):=ps.filterMap (dZ c f)
noncomputable def bw (o:Od):List (Nat×Nat):=o.ps.map Pr.pair
def lg (_:PySem.W.Frag):Sp:=fun vs H Q _=> ∃(d:Addr) (c:Nat) (pp:Addr) (bs:List Nat) (os:List Od) (xs:List V) (f:Nat->Option Nat),vs=[.ref d, .int c, .ref pp]/\bP H d bs os/\bs.Nodup/\bs.length<=200/\c<1000/\H pp=some (.lst xs)/\
 (∀o∈os, ∀p∈o.ps,p.c=c->xs[p.i]? =some (match f p.i with | none=>V.bY | some j=>V.int (j:Nat)))/\(∀o∈os, ∀p∈o.ps,p.c=c-> ∀j,f p.i=some j->j<1000)/\
 ∀(os':List Od) (H':Hp),bP H' d bs os'->os'.map bw=os.map (fun o=>bZ c f (bw o))->(∀o∈os',H o.o=none)->aI d H H'->Q .bY H'
theorem ql {K:PySem.W.Frag} {vs:List V} {H:Hp} {Q:VK} {E:XK} (h:lg K vs H Q E):vs.length=3:=by obtain ⟨_,_,_,_,_,_,_,rfl,_⟩:=h;rfl
theorem jv.LQ {H H':Hp} {d:Addr} {o:Od} (h:jv H o) (s:aI d H H') (hd:o.o≠d) (t:aC H H'):jv H' o:=⟨s _ _ h.tp hd,fun p hp=>(h.pr p hp).ts t,h.fw⟩
theorem jv.same {H H':Hp} {o:Od} (h:jv H o) (s:ai H H'):jv H' o:=⟨s _ _ h.tp,fun p hp=>(h.pr p hp).same s,h.fw⟩
theorem bP.same {H H':Hp} {d:Addr} {bs:List Nat} {os:List Od} (h:bP H d bs os) (s:ai H H'):bP H' d bs os:=⟨s _ _ h.dk,h.ln,h.nd,fun o ho=>(h.ok o ho).same s⟩
theorem bP.ne {H:Hp} {d:Addr} {bs:List Nat} {os:List Od} (h:bP H d bs os) {o:Od} (ho:o∈os):o.o≠d:=fun z=>by
 have:=(h.ok o ho).tp
 rw[z,h.dk]at this
 cases this
theorem oU {l:List Addr} (h:l.Nodup): ∀{j:Nat} {a:Addr},a∉l->(l.set j a).Nodup:=by
 induction l with
 | nil=>intro j a _;exact h
 | cons x l ih=>
  obtain ⟨n1,n2⟩:=List.nodup_cons.mp h
  intro j a ha
  cases j with
  | zero=>exact List.nodup_cons.mpr ⟨fun z=>ha (List.mem_cons_of_mem _ z),n2⟩
  | succ j=>
   refine List.nodup_cons.mpr ⟨fun z=>?_,ih n2 fun z=>ha (List.mem_cons_of_mem _ z)⟩
   rcases List.mem_or_eq_of_mem_set z with g | g
   ·exact n1 g
   ·exact ha (by rw[<-g];exact List.mem_cons_self)
theorem bP.put {H:Hp} {d:Addr} {bs:List Nat} {os:List Od} {j:Nat} {b:Nat} {o':Od} (h:bP H d bs os) (nd:bs.Nodup) (hb:bs[j]? =some b) (ho:jv H o') (hd:o'.o≠d) (hn: ∀o∈os,o.o≠o'.o):
  bP (upd H d (.dK (putK (cW bs os) (kS [b]) (.ref o'.o)))) d bs (os.set j o'):=by
 have QG:=h.dk
 have up: ∀{x:Od},jv H x->x.o≠d->jv (upd H d (.dK (putK (cW bs os) (kS [b]) (.ref o'.o)))) x:=fun {x} hx gR=>
  ⟨by rw[aj gR];exact hx.tp,fun p hp=>⟨by rw[aj (fun z=>by have:=(hx.pr p hp).tp;rw[z,QG]at this;cases this)];exact (hx.pr p hp).tp,(hx.pr p hp).cz,(hx.pr p hp).iz⟩,hx.fw⟩
 refine ⟨by rw[ae,AO nd h.ln hb],by rw[List.length_set];exact h.ln,?_,fun x hx=>?_⟩
 ·rw[List.map_set]
  exact oU h.nd fun z=>by
   obtain ⟨o,HM,y8⟩:=List.mem_map.mp z
   exact hn o HM y8
 ·rcases List.mem_or_eq_of_mem_set hx with g | g
  ·exact up (h.ok x g) (h.ne g)
  ·rw[g];exact up ho hd
theorem set_drop {α:Type} (l:List α) (i:Nat) (a:α):(l.set i a).drop (i+1)=l.drop (i+1):=by
 induction l generalizing i with
 | nil=>rfl
 | cons x l ih=>cases i with
  | zero=>rfl
  | succ i=>exact ih i
theorem rZ {α:Type} (l:List α) (i:Nat) (a:α) (h:i<l.length):(l.set i a).take (i+1)=l.take i++[a]:=by
 induction l generalizing i with
 | nil=>simp at h
 | cons x l ih=>cases i with
  | zero=>rfl
  | succ i=>show x::(l.set i a).take (i+1)=x::(l.take i++[a]);rw[ih i (by simpa using h)]
theorem xV (c:Nat) (f:Nat->Option Nat) (l:List (Nat×Nat)) (p:Nat×Nat):bZ c f (l++[p])=bZ c f l++(dZ c f p).toList:=by
 unfold bZ
 rw[List.filterMap_append]
 cases h:dZ c f p<;>simp[List.filterMap_cons,h]
def AQ (a b:Addr) (H H':Hp):Prop:= ∀x u,H x=some u->x≠a->x≠b->H' x=some u
noncomputable def swapAt (n:Nat) (l:List Pr):List Pr:=match l[n]?, l[n+1]? with | some p,some q=>(l.set n q).set (n+1) p | _,_=>l
noncomputable def outF (k i:Nat):Option Nat:=if i<k then some i else if i<k+2 then none else some (i - 2)
noncomputable def jh (k i:Nat):Option Nat:=if i<k then some i else some (i+2)
noncomputable def eY (n i:Nat):Option Nat:=if i=0 then some (n - 1) else some (i - 1)
noncomputable def fV (o:Option Nat):V:=match o with | none=>V.bY | some j=>V.int (j:Nat)
structure iw (H:Hp) (d wl:Addr) (bs:List Nat) (os:List Od) (ws:List (List Nat)):Prop where
 od:bP H d bs os
 wd:H wl=some (.lst (bX ws))
 nd:bs.Nodup
 bl:bs.length<=200
 ne: ∀o∈os,o.o≠wl
 pz: ∀o∈os, ∀p∈o.ps, ∃w,ws[p.c]? =some w/\p.i<w.length
 wz:ws.length<=4
 wo: ∀w∈ws,(∀c∈w,Lt c)/\w.length<=40
def lh (_:PySem.W.Frag):Sp:=fun vs H Q _=> ∃(d:Addr) (bs:List Nat) (os:List Od) (b j n:Nat) (o:Od),vs=[.ref d, .str (S [b]), .int n]/\bP H d bs os/\bs.Nodup/\bs.length<=200/\bs[j]? =some b/\os[j]? =some o/\n+1<o.ps.length/\
 ∀H',bP H' d bs (os.set j ⟨o.o,swapAt n o.ps⟩)->aI o.o H H'->Q (.bl true) H'
theorem qm {K:PySem.W.Frag} {vs:List V} {H:Hp} {Q:VK} {E:XK} (h:lh K vs H Q E):vs.length=3:=by obtain ⟨_,_,_,_,_,_,_,rfl,_⟩:=h;rfl
def Left (H:Hp) (Q:VK) (d wl:Addr) (bs:List Nat) (os:List Od) (ws:List (List Nat)) (c:Nat) (w':List Nat) (f:Nat->Option Nat):Prop:=
 ∀(os':List Od) (H':Hp),bP H' d bs os'->os'.map bw=os.map (fun o=>bZ c f (bw o))->H' wl=some (.lst (bX (ws.set c w')))->(∀o∈os',H o.o=none)->AQ d wl H H'->Q (.bl true) H'
def mG (_:PySem.W.Frag):Sp:=fun vs H Q _=> ∃(d wl:Addr) (bs:List Nat) (os:List Od) (ws:List (List Nat)) (c k:Nat) (w:List Nat) (x:Nat),vs=[.ref wl, .ref d, .int c, .int k]/\iw H d wl bs os ws/\ws[c]? =some w/\w[k]? =some x/\w[k+1]? =some (bL x)/\
 Left H Q d wl bs os ws c (w.take k++w.drop (k+2)) (outF k)
theorem r9 {K:PySem.W.Frag} {vs:List V} {H:Hp} {Q:VK} {E:XK} (h:mG K vs H Q E):vs.length=4:=by obtain ⟨_,_,_,_,_,_,_,_,_,rfl,_⟩:=h;rfl
def mH (_:PySem.W.Frag):Sp:=fun vs H Q _=> ∃(d wl:Addr) (bs:List Nat) (os:List Od) (ws:List (List Nat)) (c:Nat) (w:List Nat),vs=[.ref wl, .ref d, .int c]/\iw H d wl bs os ws/\ws[c]? =some w/\
 Left H Q d wl bs os ws c (w.drop 1++w.take 1) (eY w.length)
theorem r_ {K:PySem.W.Frag} {vs:List V} {H:Hp} {Q:VK} {E:XK} (h:mH K vs H Q E):vs.length=3:=by obtain ⟨_,_,_,_,_,_,_,rfl,_⟩:=h;rfl
theorem wj (ps:List Pr) (n:Nat) (p:Pr):(de ps).set n (V.ref p.t)=de (ps.set n p):=by unfold de;rw[List.map_set]
theorem iw.pl {H:Hp} {d wl:Addr} {bs:List Nat} {os:List Od} {ws:List (List Nat)} (h:iw H d wl bs os ws) {c:Nat} {w:List Nat} (hw:ws[c]? =some w) {xs:List V} {f:Nat->Option Nat} (hx: ∀i,i<w.length->xs[i]? =some (fV (f i))):
  ∀o∈os, ∀p∈o.ps,p.c=c->xs[p.i]? =some (match f p.i with | none=>V.bY | some j=>V.int (j:Nat)):=fun o ho p hp e=>by
 obtain ⟨w',h1,h2⟩:=h.pz o ho p hp
 rw[e,hw]at h1
 cases h1
 exact hx _ h2
theorem iP {n k:Nat} (h:k<n):zE n (k:Int)=some k:=by
 unfold zE
 rw[if_pos (by omega)]
 simp[h]
theorem se (bs:List Nat) (os:List Od):cW bs os=(bs.zip (os.map Od.o)).map fun x=>(kS [x.1],V.ref x.2):=by
 unfold cW
 rw[List.zip_map_right,List.map_map]
 rfl
theorem set_same {α:Type}: ∀{l:List α} {j:Nat} {a:α},l[j]? =some a->l.set j a=l
 | [],_,_,_=>rfl
 | x::l,0,a,h=>by cases h;rfl
 | x::l,j+1,a,h=>by show x::l.set j a=x::l;rw[set_same (by simpa using h)]
theorem bP.mut {H:Hp} {d:Addr} {bs:List Nat} {os:List Od} {j:Nat} {o:Od} {uR:List Pr} (h:bP H d bs os) (ho:os[j]? =some o) (hp: ∀p∈uR,f_ H p) (hl:uR.length<=200):
  bP (upd H o.o (.lst (de uR))) d bs (os.set j ⟨o.o,uR⟩):=by
 have dU:=List.mem_of_getElem? ho
 have lN:=h.ok o dU
 have em:(os.set j ⟨o.o,uR⟩).map Od.o=os.map Od.o:=by
  rw[List.map_set]
  exact set_same (by rw[List.getElem?_map,ho];rfl)
 have tU:aC H (upd H o.o (.lst (de uR))):=aC.ja lN.tp
 refine ⟨?_,by rw[List.length_set];exact h.ln,by rw[em];exact h.nd,fun x hx=>?_⟩
 ·rw[aj (Ne.symm (h.ne dU)),h.dk,se,se,em]
 ·obtain ⟨i,hi,e⟩:=List.mem_iff_getElem.mp hx
  by_cases z:j=i
  ·subst z
   rw[List.getElem_set_self]at e
   rw[<-e]
   exact ⟨ae,fun p JE=>(hp p JE).ts tU,hl⟩
  ·rw[List.getElem_set_ne z]at e
   rw[List.length_set]at hi
   have xu:x∈os:=by rw[<-e];exact List.getElem_mem hi
   have gR:x.o≠o.o:=fun y=>z (by
    have hj:=(List.getElem?_eq_some_iff.mp ho)
    have h1:(os.map Od.o)[i]'(by rw[List.length_map];exact hi)=(os.map Od.o)[j]'(by rw[List.length_map];exact hj.1):=by
     rw[List.getElem_map,List.getElem_map,e,hj.2];exact y
    have JH:=List.pairwise_iff_getElem.mp h.nd
    rcases Nat.lt_trichotomy i j with g | g | g
    ·exact absurd h1 (JH i j _ _ g)
    ·exact g.symm
    ·exact absurd h1.symm (JH j i _ _ g))
   have QH:=h.ok x xu
   exact ⟨by rw[aj gR];exact QH.tp,fun p JE=>(QH.pr p JE).ts tU,QH.fw⟩
theorem swap_perm (n:Nat) (l:List Pr):(swapAt n l).Perm l:=by
 unfold swapAt
 cases h0:l[n]? with
 | none=>exact List.Perm.refl _
 | some p=>cases h1:l[n+1]? with
  | none=>exact List.Perm.refl _
  | some q=>
   show ((l.set n q).set (n+1) p).Perm l
   induction l generalizing n with
   | nil=>simp at h0
   | cons x l ih=>
    cases n with
    | zero=>
     cases l with
     | nil=>simp at h1
     | cons y l=>
      cases h0
      have e:y=q:=by simpa using h1
      subst e
      exact List.Perm.swap _ _ l
    | succ n=>exact (ih n (by simpa using h0) (by simpa using h1)).cons x
theorem bP.HN {H:Hp} {d wl:Addr} {bs:List Nat} {os:List Od} {ys zs:List V} (h:bP H d bs os) (gR: ∀o∈os,o.o≠wl) (hw:H wl=some (.lst ys)):bP (upd H wl (.lst zs)) d bs os:=by
 have tU:aC H (upd H wl (.lst zs)):=aC.ja hw
 exact ⟨by rw[aj (fun z=>by rw[<-z,h.dk]at hw;cases hw)];exact h.dk,h.ln,h.nd,fun o ho=>⟨by rw[aj (gR o ho)];exact (h.ok o ho).tp,fun p hp=>((h.ok o ho).pr p hp).ts tU,(h.ok o ho).fw⟩⟩
theorem qo (ws:List (List Nat)) (c:Nat) (w:List Nat):(bX ws).set c (.str (S w))=bX (ws.set c w):=by unfold bX;rw[List.map_set]
theorem wm (w:List Nat):cut w (some 1) none=w.drop 1:=by have:=gp w 1;rwa [show ((1:Nat):Int)=1 from rfl]at this
theorem sf (w:List Nat):cut w none (some 1)=w.take 1:=by have:=uL w 1;rwa [show ((1:Nat):Int)=1 from rfl]at this
theorem j8 {n i:Nat} {a:Int} (h:i<n):((List.range n).map fun (k:Nat)=>V.int (a+(k:Int)))[i]? =some (V.int (a+(i:Int))):=by
 rw[List.getElem?_map,List.getElem?_range h]
 rfl
theorem DB {n i:Nat} (h:i<n):([V.int ((n:Int) - 1)]++(List.range ((n:Int) - 1).toNat).map fun (k:Nat)=>V.int (0+(k:Int)))[i]? =some (fV (eY n i)):=by
 unfold eY fV
 by_cases z:i=0
 ·subst z
  rw[if_pos rfl]
  show some (V.int ((n:Int) - 1))=some (V.int ((n - 1:Nat):Int))
  congr 2
  omega
 ·rw[if_neg z,List.getElem?_append_right (by simp;omega),List.length_singleton,j8 (by omega)]
  congr 2
  omega
theorem sg {H H3:Hp} {Q:VK} {d wl:Addr} {bs:List Nat} {os:List Od} {ws:List (List Nat)} {c:Nat} {w':List Nat} {f:Nat->Option Nat} (hH:iw H d wl bs os ws) (q:Left H Q d wl bs os ws c w' f) (s:ai (upd H wl (.lst (bX (ws.set c w')))) H3):
  ∀(os':List Od) (H':Hp),bP H' d bs os'->os'.map bw=os.map (fun o=>bZ c f (bw o))->(∀o∈os',H3 o.o=none)->aI d H3 H'->Q (.bl true) H':=fun os' H' h1 h2 h3 h4=>by
 have QI:wl≠d:=fun z=>by have:=hH.wd;rw[z,hH.od.dk]at this;cases this
 refine q os' H' h1 h2 (h4 _ _ (s _ _ ae) QI) (fun o ho=>?_) fun a u ea za zb=>?_
 ·cases e:H o.o with
  | none=>rfl
  | some u=>
   exfalso
   have hn:=h3 o ho
   by_cases z:o.o=wl
   ·rw[z,s _ _ ae]at hn;cases hn
   ·rw[s _ _ (show upd H wl (.lst (bX (ws.set c w'))) o.o=some u by rw[aj z];exact e)]at hn;cases hn
 ·exact h4 _ _ (s _ _ (by rw[aj zb];exact ea)) za
theorem iw.pb {H:Hp} {d wl:Addr} {bs:List Nat} {os:List Od} {ws:List (List Nat)} (h:iw H d wl bs os ws) {c:Nat} {w:List Nat} (hw:ws[c]? =some w) {f:Nat->Option Nat} (hf: ∀i j,i<w.length->f i=some j->j<1000):
  ∀o∈os, ∀p∈o.ps,p.c=c-> ∀j,f p.i=some j->j<1000:=fun o ho p hp e j hj=>by
 obtain ⟨w',h1,h2⟩:=h.pz o ho p hp
 rw[e,hw]at h1
 cases h1
 exact hf _ _ h2 hj
theorem oV (w:List Nat) (k:Nat):cut w none (some (k:Int))=w.take k:=uL w k
theorem HP {n k i:Nat} (hk:k+1<n) (h:i<n):(((List.range ((k:Int)).toNat).map fun (j:Nat)=>V.int (0+(j:Int)))++[V.bY,V.bY]++(List.range ((n:Int) - 2 - (k:Int)).toNat).map fun (j:Nat)=>V.int ((k:Int)+(j:Int)))[i]? =some (fV (outF k i)):=by
 have e1:((k:Int)).toNat=k:=by omega
 have e2:((n:Int) - 2 - (k:Int)).toNat=n - 2 - k:=by omega
 rw[e1,e2]
 unfold outF fV
 by_cases z:i<k
 ·rw[if_pos z,List.getElem?_append_left (by simp;omega),List.getElem?_append_left (by simpa using z),j8 z]
  congr 2
  omega
 ·rw[if_neg z]
  by_cases y:i<k+2
  ·rw[if_pos y,List.getElem?_append_left (by simp;omega),List.getElem?_append_right (by simp;omega),List.length_map,List.length_range]
   rcases (by omega:i - k=0\/i - k=1) with g | g<;>rw[g]<;>rfl
  ·have el:(((List.range k).map fun (j:Nat)=>V.int (0+(j:Int)))++[V.bY,V.bY]).length=k+2:=by simp
   rw[if_neg y,List.getElem?_append_right (by omega),el,j8 (by omega)]
   congr 2
   omega
theorem LR {n k i:Nat} (hk:k<=n) (h:i<n):(((List.range ((k:Int)).toNat).map fun (j:Nat)=>V.int (0+(j:Int)))++(List.range ((n:Int)+2 - ((k:Int)+2)).toNat).map fun (j:Nat)=>V.int ((k:Int)+2+(j:Int)))[i]? =some (fV (jh k i)):=by
 have e1:((k:Int)).toNat=k:=by omega
 have e2:((n:Int)+2 - ((k:Int)+2)).toNat=n - k:=by omega
 rw[e1,e2]
 unfold jh fV
 by_cases z:i<k
 ·rw[if_pos z,List.getElem?_append_left (by simpa using z),j8 z]
  congr 2
  omega
 ·rw[if_neg z,List.getElem?_append_right (by simp;omega),List.length_map,List.length_range,j8 (by omega)]
  congr 2
  omega
theorem uS {H H3 H':Hp} {d wl:Addr} {bs:List Nat} {os os':List Od} {ws:List (List Nat)} {c:Nat} {w':List Nat} (hH:iw H d wl bs os ws) (s:ai (upd H wl (.lst (bX (ws.set c w')))) H3) (h3: ∀o∈os',H3 o.o=none) (h4:aI d H3 H'):
  H' wl=some (.lst (bX (ws.set c w')))/\(∀o∈os',H o.o=none)/\AQ d wl H H':=by
 have QI:wl≠d:=fun z=>by have:=hH.wd;rw[z,hH.od.dk]at this;cases this
 refine ⟨h4 _ _ (s _ _ ae) QI,fun o ho=>?_,fun a u ea za zb=>h4 _ _ (s _ _ (by rw[aj zb];exact ea)) za⟩
 cases e:H o.o with
 | none=>rfl
 | some u=>
  exfalso
  have hn:=h3 o ho
  by_cases z:o.o=wl
  ·rw[z,s _ _ ae]at hn;cases hn
  ·rw[s _ _ (show upd H wl (.lst (bX (ws.set c w'))) o.o=some u by rw[aj z];exact e)]at hn;cases hn
noncomputable def put2 (n:Nat) (p q:Nat×Nat) (l:List (Nat×Nat)):List (Nat×Nat):=l.take n++p::q::l.drop n
def oX (_:PySem.W.Frag):Sp:=fun vs H Q _=> ∃(d wl:Addr) (bs:List Nat) (os:List Od) (ws:List (List Nat)) (c k n j:Nat) (w:List Nat) (x:Nat) (o:Od),vs=[.ref wl, .ref d, .int c, .int k, .str (S [x]), .int n]/\iw H d wl bs os ws/\ws[c]? =some w/\k<=w.length/\Lt x/\bs[j]? =some (PyProof.Rows.lo1 x)/\os[j]? =some o/\n<=o.ps.length/\o.ps.length<=190/\
 ∀(os':List Od) (H':Hp),bP H' d bs os'->os'.map bw=(os.map (fun o=>bZ c (jh k) (bw o))).set j (put2 n (c,k) (c,k+1) (bZ c (jh k) (bw o)))->H' wl=some (.lst (bX (ws.set c (w.take k++[x]++[bL x]++w.drop k))))->(∀o∈os',H o.o=none)->AQ d wl H H'->Q (.bl true) H'
theorem uT {K:PySem.W.Frag} {vs:List V} {H:Hp} {Q:VK} {E:XK} (h:oX K vs H Q E):vs.length=6:=by obtain ⟨_,_,_,_,_,_,_,_,_,_,_,_,rfl,_⟩:=h;rfl
theorem lj (c k:Nat): ∀l:List (Nat×Nat),(bZ c (jh k) l).length=l.length
 | []=>rfl
 | p::l=>by
  have ih:=lj c k l
  unfold bZ at ih ⊢
  have e: ∃q,dZ c (jh k) p=some q:=by
   unfold dZ jh
   by_cases z:p.1=c
   ·rw[if_pos z];split<;>exact ⟨_,rfl⟩
   ·rw[if_neg z];exact ⟨_,rfl⟩
  obtain ⟨q,hq⟩:=e
  rw[List.filterMap_cons,hq]
  simp[ih]
theorem wq (ps:List Pr) (n:Nat) (p:Pr):(de ps).take n++V.ref p.t::(de ps).drop n=de (ps.take n++p::ps.drop n):=by unfold de;rw[List.map_append,List.map_cons,List.map_take,List.map_drop]
inductive eQ where
 | swap (b n:Nat) | out (c k:Nat) | turn (c:Nat) | ins (c k x n:Nat)
noncomputable def iy:List Nat:=[115,119,97,112]
noncomputable def mI:List Nat:=[111,117,116]
noncomputable def gN:List Nat:=[116,117,114,110]
noncomputable def AR:List Nat:=[105,110]
def fI (H:Hp) (a:Addr):eQ->Prop
 | .swap b n=>H a=some (.tup [.str (S iy), .str (S [b]), .int n])
 | .out c k=>H a=some (.tup [.str (S mI), .int c, .int k])
 | .turn c=>H a=some (.tup [.str (S gN), .int c])
 | .ins c k x n=>H a=some (.tup [.str (S AR), .int c, .int k, .str (S [x]), .int n])
theorem fI.ts {H H':Hp} {a:Addr} {e:eQ} (h:fI H a e) (s:aC H H'):fI H' a e:=by cases e<;>exact s _ _ h
noncomputable def gO (n:Nat) (l:List (Nat×Nat)):List (Nat×Nat):=match l[n]?, l[n+1]? with | some p,some q=>(l.set n q).set (n+1) p | _,_=>l
theorem AS (n:Nat) (l:List Pr):(swapAt n l).map Pr.pair=gO n (l.map Pr.pair):=by
 unfold swapAt gO
 rw[List.getElem?_map,List.getElem?_map]
 cases l[n]?<;> cases l[n+1]?<;> simp[List.map_set]
abbrev cy:=List (List (Nat×Nat))
noncomputable def dW (ws:List (List Nat)):eQ->List (List Nat)
 | .swap _ _=>ws
 | .out c k=>ws.set c ((ws.getD c []).take k++(ws.getD c []).drop (k+2))
 | .turn c=>ws.set c ((ws.getD c []).drop 1++(ws.getD c []).take 1)
 | .ins c k x _=>ws.set c ((ws.getD c []).take k++[x]++[bL x]++(ws.getD c []).drop k)
noncomputable def dO (bs:List Nat) (ws:List (List Nat)) (L:cy):eQ->cy
 | .swap b n=>L.set (bs.idxOf b) (gO n (L.getD (bs.idxOf b) []))
 | .out c k=>L.map (bZ c (outF k))
 | .turn c=>L.map (bZ c (eY (ws.getD c []).length))
 | .ins c k x n=>(L.map (bZ c (jh k))).set (bs.idxOf (PyProof.Rows.lo1 x)) (put2 n (c,k) (c,k+1) (bZ c (jh k) (L.getD (bs.idxOf (PyProof.Rows.lo1 x)) [])))
def DC (y bs:List Nat) (ws:List (List Nat)) (L:cy):eQ->Prop
 | .swap b n=>b∈bs/\n+1<(L.getD (bs.idxOf b) []).length
 | .out c k=>c<ws.length/\ ∃x,(ws.getD c [])[k]? =some x/\(ws.getD c [])[k+1]? =some (bL x)
 | .turn c=>c<ws.length
 | .ins c k x n=>c<ws.length/\k<=(ws.getD c []).length/\(ws.getD c []).length<=38/\x∈y/\n<=(L.getD (bs.idxOf (PyProof.Rows.lo1 x)) []).length
def lq (_:PySem.W.Frag):Sp:=fun vs H Q _=> ∃(y:List Nat) (d wl a:Addr) (os:List Od) (ws:List (List Nat)) (e:eQ),vs=[.str (S y), .ref wl, .ref d, .ref a]/\Yd y/\y.length<=8/\iw H d wl (aq y) os ws/\(∀o∈os,o.ps.length<=190)/\fI H a e/\DC y (aq y) ws (os.map bw) e/\
 ∀(os':List Od) (H':Hp),bP H' d (aq y) os'->os'.map bw=dO (aq y) ws (os.map bw) e->H' wl=some (.lst (bX (dW ws e)))->(∀o∈os',H o.o=none\/o.o∈os.map Od.o)->(∀x u,H x=some u->x≠d->x≠wl->x∉os.map Od.o->H' x=some u)->Q (.bl true) H'
theorem qp {K:PySem.W.Frag} {vs:List V} {H:Hp} {Q:VK} {E:XK} (h:lq K vs H Q E):vs.length=4:=by obtain ⟨_,_,_,_,_,_,_,rfl,_⟩:=h;rfl
theorem aK {α:Type} {l:List α} {i:Nat} {a x:α} (h:l[i]? =some a):l.getD i x=a:=by rw[List.getD_eq_getElem?_getD,h];rfl
theorem iw.same {H H':Hp} {d wl:Addr} {bs:List Nat} {os:List Od} {ws:List (List Nat)} (h:iw H d wl bs os ws) (s:ai H H'):iw H' d wl bs os ws:=⟨h.od.same s,s _ _ h.wd,h.nd,h.bl,h.ne,h.pz,h.wz,h.wo⟩
theorem oY {α:Type} {f:Nat->List α} (g:α->Nat): ∀{l:List Nat},l.Nodup->(∀e∈l,(f e).Nodup)->(∀e∈l, ∀p∈f e,g p=e)->(l.flatMap f).Nodup
 | [],_,_,_=>List.nodup_nil
 | a::l,hn,h1,h2=>by
  obtain ⟨n1,n2⟩:=List.nodup_cons.mp hn
  rw[List.flatMap_cons,List.nodup_append]
  refine ⟨h1 a List.mem_cons_self,oY g n2 (fun e he=>h1 e (List.mem_cons_of_mem _ he)) (fun e he=>h2 e (List.mem_cons_of_mem _ he)),fun x hx y hy z=>?_⟩
  subst z
  obtain ⟨e,he,Yp⟩:=List.mem_flatMap.mp hy
  have g1:=h2 a List.mem_cons_self x hx
  have g2:=h2 e (List.mem_cons_of_mem _ he) x Yp
  exact n1 (by rw[<-g1,g2];exact he)
theorem jw (band:Nat) (ws:List (List Nat)) (n:Nat):(cG band ws n).Nodup:=
 oY Prod.fst List.nodup_range (fun c _=>by
  unfold iu
  show (List.map _ _).Pairwise (· ≠ ·)
  rw[List.pairwise_map]
  exact (List.nodup_range.filter _).imp fun {i j} h z=>h (by cases z;rfl)) fun c _ p hp=>by
  unfold iu at hp
  obtain ⟨i,_,rfl⟩:=List.mem_map.mp hp
  rfl
theorem fb {band c i n:Nat} {ws:List (List Nat)}:(c,i)∈cG band ws n↔c<n/\i<(ws.getD c []).length/\uP band ((ws.getD c []).getD i 0)=true:=by
 constructor
 ·intro h
  obtain ⟨c',hc,h2⟩:=List.mem_flatMap.mp h
  unfold iu at h2
  obtain ⟨i',hi,e⟩:=List.mem_map.mp h2
  obtain ⟨Yq,LS⟩:=List.mem_filter.mp hi
  cases e
  exact ⟨List.mem_range.mp hc,List.mem_range.mp Yq,LS⟩
 ·rintro ⟨h1,h2,h3⟩
  exact List.mem_flatMap.mpr ⟨c,List.mem_range.mpr h1,List.mem_map.mpr ⟨i,List.mem_filter.mpr ⟨List.mem_range.mpr h2,h3⟩,rfl⟩⟩
theorem AU {ws:List (List Nat)} {c d:Nat} {w':List Nat} (h:c<ws.length):(ws.set c w').getD d []=if d=c then w' else ws.getD d []:=by
 rw[List.getD_eq_getElem?_getD,List.getElem?_set]
 by_cases z:c=d
 ·subst z;rw[if_pos rfl,if_pos rfl,if_pos h];rfl
 ·rw[if_neg z,if_neg fun y=>z y.symm,List.getD_eq_getElem?_getD]
theorem mJ {ws:List (List Nat)} {b c:Nat} {w' X:List Nat} {f:Nat->Option Nat} (hc:c<ws.length) (hX:X.Nodup)
  (inj: ∀i i' j,i<(ws.getD c []).length->i'<(ws.getD c []).length->f i=some j->f i'=some j->i=i')
  (hj: ∀j,(j<w'.length/\uP b (w'.getD j 0)=true)↔((∃i,i<(ws.getD c []).length/\uP b ((ws.getD c []).getD i 0)=true/\f i=some j)\/j∈X))
  (hx: ∀i j,i<(ws.getD c []).length->f i=some j->j∉X):
  (cG b (ws.set c w') (ws.set c w').length).Perm (X.map (fun j=>(c,j))++bZ c f (cG b ws ws.length)):=by
 have Yr:(bZ c f (cG b ws ws.length)).Nodup:=by
  unfold bZ
  show List.Pairwise (· ≠ ·) _
  rw[List.pairwise_filterMap]
  refine List.Pairwise.imp_of_mem ?_ (jw b ws ws.length)
  rintro ⟨a1,a2⟩ ⟨b1,b2⟩ ma mb gR q hq q' nB e
  subst e
  obtain ⟨ma1,Ys,_⟩:=fb.mp ma
  obtain ⟨mb1,Yt,_⟩:=fb.mp mb
  unfold dZ at hq nB
  by_cases za:a1=c<;>by_cases zb:b1=c
  ·subst za
   subst zb
   rw[if_pos rfl]at hq nB
   cases e1:f a2 with
   | none=>rw[e1]at hq;cases hq
   | some j=>
    cases e2:f b2 with
    | none=>rw[e2]at nB;cases nB
    | some j'=>
     rw[e1]at hq
     rw[e2]at nB
     cases hq
     have:j'=j:=by injection nB with z;exact congrArg Prod.snd z
     subst this
     exact gR (by rw[inj a2 b2 j' Ys Yt e1 e2])
  ·rw[if_pos za]at hq
   rw[if_neg zb]at nB
   cases nB
   cases e1:f a2 with
   | none=>rw[e1]at hq;cases hq
   | some j=>rw[e1]at hq;injection hq with z;exact zb (congrArg Prod.fst z).symm
  ·rw[if_neg za]at hq
   rw[if_pos zb]at nB
   cases hq
   cases e1:f b2 with
   | none=>rw[e1]at nB;cases nB
   | some j=>rw[e1]at nB;injection nB with z;exact za (congrArg Prod.fst z).symm
  ·rw[if_neg za]at hq
   rw[if_neg zb]at nB
   cases hq
   cases nB
   exact gR rfl
 have LU: ∀d j,(d,j)∈bZ c f (cG b ws ws.length)↔(if d=c then ∃i,i<(ws.getD c []).length/\uP b ((ws.getD c []).getD i 0)=true/\f i=some j else (d,j)∈cG b ws ws.length):=fun d j=>by
  unfold bZ
  rw[List.mem_filterMap]
  by_cases z:d=c
  ·subst z
   rw[if_pos rfl]
   constructor
   ·rintro ⟨⟨d',i⟩,hm,he⟩
    unfold dZ at he
    by_cases y:d'=d
    ·subst y
     rw[if_pos rfl]at he
     cases e1:f i with
     | none=>rw[e1]at he;cases he
     | some j'=>
      rw[e1]at he
      have:j'=j:=by injection he with z;exact congrArg Prod.snd z
      subst this
      obtain ⟨_,m2,m3⟩:=fb.mp hm
      exact ⟨i,m2,m3,e1⟩
    ·rw[if_neg y]at he
     exact absurd (congrArg Prod.fst (Option.some.inj he)) y
   ·rintro ⟨i,h1,h2,h3⟩
    exact ⟨(d,i),fb.mpr ⟨hc,h1,h2⟩,by unfold dZ;rw[if_pos rfl,h3];rfl⟩
  ·rw[if_neg z]
   constructor
   ·rintro ⟨⟨d',i⟩,hm,he⟩
    unfold dZ at he
    by_cases y:d'=c
    ·rw[if_pos y]at he
     cases e1:f i with
     | none=>rw[e1]at he;cases he
     | some j'=>rw[e1]at he;injection he with y';exact absurd (congrArg Prod.fst y').symm z
    ·rw[if_neg y]at he
     cases he
     exact hm
   ·intro hm
    exact ⟨(d,j),hm,if_neg z⟩
 refine (List.perm_ext_iff_of_nodup (jw _ _ _) (List.nodup_append.mpr ⟨?_,Yr,?_⟩)).mpr fun p=>?_
 ·show (List.map _ _).Pairwise (· ≠ ·)
  rw[List.pairwise_map]
  exact hX.imp fun {i j} h z=>h (by cases z;rfl)
 ·rintro p hp q hq rfl
  obtain ⟨j,Yu,rfl⟩:=List.mem_map.mp hp
  rw[LU,if_pos rfl]at hq
  obtain ⟨i,h1,_,h3⟩:=hq
  exact hx i j h1 h3 Yu
 ·obtain ⟨d,j⟩:=p
  rw[fb,List.length_set,AU hc,List.mem_append,LU]
  by_cases z:d=c
  ·subst z
   rw[if_pos rfl,if_pos rfl]
   constructor
   ·rintro ⟨_,h1,h2⟩
    rcases (hj j).mp ⟨h1,h2⟩ with g | g
    ·exact .inr g
    ·exact .inl (List.mem_map.mpr ⟨j,g,rfl⟩)
   ·rintro (g | g)
    ·obtain ⟨j',g1,g2⟩:=List.mem_map.mp g
     have:j'=j:=congrArg Prod.snd g2
     subst this
     exact ⟨hc,(hj j').mpr (.inr g1)⟩
    ·exact ⟨hc,(hj j).mpr (.inl g)⟩
  ·rw[if_neg z,if_neg z,fb]
   constructor
   ·exact fun h=> .inr h
   ·rintro (g | g)
    ·obtain ⟨j',_,g2⟩:=List.mem_map.mp g
     exact absurd (congrArg Prod.fst g2).symm z
    ·exact g
def VE (y:List Nat) (ws:List (List Nat)) (L:cy):Prop:=L.length=(aq y).length/\ ∀(j:Nat) (l:List (Nat×Nat)) (b:Nat),L[j]? =some l->(aq y)[j]? =some b->l.Perm (cG b ws ws.length)
structure Good (y:List Nat) (ws:List (List Nat)) (L:cy):Prop where
 wk:xT y ws
 lk:VE y ws L
theorem AV (w:List Nat) (k j:Nat) (hk:k+1<w.length):(w.take k++w.drop (k+2)).getD j 0=if j<k then w.getD j 0 else w.getD (j+2) 0:=by
 rw[List.getD_eq_getElem?_getD]
 by_cases z:j<k
 ·rw[if_pos z,List.getElem?_append_left (by rw[List.length_take];omega),List.getElem?_take,if_pos z,List.getD_eq_getElem?_getD]
 ·rw[if_neg z,List.getElem?_append_right (by rw[List.length_take];omega),List.length_take,List.getElem?_drop,List.getD_eq_getElem?_getD,show k+2+(j - min k w.length)=j+2 by omega]
theorem kG (w:List Nat) (j:Nat) (hj:j<w.length):(w.drop 1++w.take 1).getD j 0=if j+1<w.length then w.getD (j+1) 0 else w.getD 0 0:=by
 rw[List.getD_eq_getElem?_getD]
 by_cases z:j+1<w.length
 ·rw[if_pos z,List.getElem?_append_left (by rw[List.length_drop];omega),List.getElem?_drop,List.getD_eq_getElem?_getD,show 1+j=j+1 by omega]
 ·rw[if_neg z,List.getElem?_append_right (by rw[List.length_drop];omega),List.length_drop,List.getElem?_take,if_pos (by omega),List.getD_eq_getElem?_getD,show j - (w.length - 1)=0 by omega]
theorem AW (w:List Nat) (k x j:Nat) (hk:k<=w.length):(w.take k++[x]++[bL x]++w.drop k).getD j 0=if j<k then w.getD j 0 else if j=k then x else if j=k+1 then bL x else w.getD (j - 2) 0:=by
 have el:(w.take k).length=k:=by rw[List.length_take];omega
 rw[List.getD_eq_getElem?_getD]
 by_cases z:j<k
 ·rw[if_pos z,List.getElem?_append_left (by simp;omega),List.getElem?_append_left (by simp;omega),List.getElem?_append_left (by omega),List.getElem?_take,if_pos z,List.getD_eq_getElem?_getD]
 ·rw[if_neg z]
  by_cases z1:j=k
  ·rw[if_pos z1,List.getElem?_append_left (by simp;omega),List.getElem?_append_left (by simp;omega),List.getElem?_append_right (by omega),el,z1,Nat.sub_self];rfl
  ·rw[if_neg z1]
   by_cases z2:j=k+1
   ·have e2:(w.take k++[x]).length=k+1:=by rw[List.length_append,el];rfl
    rw[if_pos z2,List.getElem?_append_left (by simp;omega),List.getElem?_append_right (by omega),e2,z2,Nat.sub_self];rfl
   ·have e3:(w.take k++[x]++[bL x]).length=k+2:=by rw[List.length_append,List.length_append,el];rfl
    rw[if_neg z2,List.getElem?_append_right (by omega),e3,List.getElem?_drop,List.getD_eq_getElem?_getD,show k+(j - (k+2))=j - 2 by omega]
theorem wu {b x:Nat} (hb:Lt b) (hx:Lt x):uP b (bL x)=uP b x:=by
 unfold uP
 have e1:decide (bL x=b)=decide (x=bL b):=decide_eq_decide.mpr ⟨fun z=>by rw[<-z,cN hx],fun z=>by rw[z,cN hb]⟩
 have e2:decide (bL x=bL b)=decide (x=b):=decide_eq_decide.mpr ⟨fun z=>by rw[<-cN hx,z,cN hb],fun z=>by rw[z]⟩
 rw[e1,e2,Bool.or_comm]
theorem uU (n:Nat) (l:List (Nat×Nat)):(gO n l).Perm l:=by
 unfold gO
 cases h0:l[n]? with
 | none=>exact List.Perm.refl _
 | some p=>cases h1:l[n+1]? with
  | none=>exact List.Perm.refl _
  | some q=>
   show ((l.set n q).set (n+1) p).Perm l
   induction l generalizing n with
   | nil=>simp at h0
   | cons x l ih=>
    cases n with
    | zero=>
     cases l with
     | nil=>simp at h1
     | cons y l=>
      cases h0
      have e:y=q:=by simpa using h1
      subst e
      exact List.Perm.swap _ _ l
    | succ n=>exact (ih n (by simpa using h0) (by simpa using h1)).cons x
theorem xW (n:Nat) (p q:Nat×Nat) (l:List (Nat×Nat)):(put2 n p q l).Perm (p::q::l):=by
 unfold put2
 have h1:=List.perm_middle (l₁:=l.take n) (a:=p) (l₂:=q::l.drop n)
 have h2:=List.perm_middle (l₁:=l.take n) (a:=q) (l₂:=l.drop n)
 rw[List.take_append_drop]at h2
 exact h1.trans (h2.cons p)
theorem qt {α:Type} {l:List α} {j:Nat} {a x:α} {i:Nat} (h:(l.set j a)[i]? =some x):(i=j/\x=a)\/(i≠j/\l[i]? =some x):=by
 rw[List.getElem?_set]at h
 by_cases z:j=i
 ·rw[if_pos z]at h
  split at h
  ·exact .inl ⟨z.symm,(Option.some.inj h).symm⟩
  ·cases h
 ·rw[if_neg z]at h
  exact .inr ⟨fun y=>z y.symm,h⟩
theorem mK {y:List Nat} {ws:List (List Nat)} {c:Nat} {w':List Nat} (h:xT y ws) (hw:(∀x∈w',x∈y)/\w'.length<=40):xT y (ws.set c w'):=⟨by rw[List.length_set];exact h.kX,fun w hm=>(List.mem_or_eq_of_mem_set hm).elim (h.all w) fun e=>by rw[e];exact hw⟩
theorem getD_mem {ws:List (List Nat)} {c:Nat} (h:c<ws.length):ws.getD c []∈ws:=by rw[List.getD_eq_getElem?_getD,List.getElem?_eq_getElem h];exact List.getElem_mem h
theorem iA {l:List Nat} (h:l.Nodup) {n p:Nat} (e:l[n]? =some p):l.idxOf p=n:=by
 obtain ⟨hn,e2⟩:=List.getElem?_eq_some_iff.mp e
 have hi:=List.idxOf_lt_length_of_mem (List.mem_of_getElem? e)
 have hp:=List.pairwise_iff_getElem.mp h
 have e3:l[l.idxOf p]=l[n]:=(List.getElem_idxOf hi).trans e2.symm
 rcases Nat.lt_trichotomy (l.idxOf p) n with z | z | z
 ·exact absurd e3 (hp _ _ hi hn z)
 ·exact z
 ·exact absurd e3.symm (hp _ _ hn hi z)
theorem Good.step {y:List Nat} {ws:List (List Nat)} {L:cy} {e:eQ} (hy:Yd y) (g:Good y ws L) (aX:DC y (aq y) ws L e):Good y (dW ws e) (dO (aq y) ws L e):=by
 obtain ⟨gw,gl,go⟩:=g
 have bl: ∀b∈aq y,b∈bo:=fun b hb=>by
  have:=List.mem_filter.mp ((dq y).mem_iff.mp hb)
  have h2:=this.2
  rw[iO (hy.lt b this.1)]at h2
  exact of_decide_eq_true h2
 cases e with
 | swap b n=>
  refine ⟨gw,by show (L.set _ _).length=_;rw[List.length_set];exact gl,fun j l b' hl E9=>?_⟩
  rcases qt (show (L.set _ (gO n (L.getD ((aq y).idxOf b) [])))[j]? =some l from hl) with ⟨e1,e2⟩ | ⟨_,e2⟩
  ·subst e1
   have hj:(aq y).idxOf b<L.length:=by rw[gl];exact (List.getElem?_eq_some_iff.mp E9).1
   have hg:L[(aq y).idxOf b]? =some L[(aq y).idxOf b]:=List.getElem?_eq_getElem hj
   rw[e2,aK hg]
   exact (uU n _).trans (go _ _ _ hg E9)
  ·exact go j l b' e2 E9
 | out c k=>
  obtain ⟨hc,x,h0,h1⟩:=aX
  have hk:k+1<(ws.getD c []).length:=(List.getElem?_eq_some_iff.mp h1).1
  obtain ⟨wy,wz⟩:=gw.all _ (getD_mem hc)
  refine ⟨mK gw ⟨fun z hz=>?_,by rw[List.length_append,List.length_take,List.length_drop];omega⟩,by show (L.map _).length=_;rw[List.length_map];exact gl,fun j l b hl hb=>?_⟩
  ·rcases List.mem_append.mp hz with q | q
   ·exact wy z (List.mem_of_mem_take q)
   ·exact wy z (List.mem_of_mem_drop q)
  ·obtain ⟨l0,jG,rfl⟩:=Option.map_eq_some_iff.mp (by rw[<-List.getElem?_map];exact hl)
   have hp:=go j l0 b jG hb
   refine (hp.filterMap (dZ c (outF k))).trans ((mJ (X:=[]) hc List.nodup_nil ?_ ?_ ?_).symm)
   ·intro i i' j' _ _ e1 e2
    unfold outF at e1 e2
    split at e1
    ·have a1:=Option.some.inj e1
     split at e2
     ·have a2:=Option.some.inj e2;omega
     ·split at e2
      ·cases e2
      ·have a2:=Option.some.inj e2;omega
    ·split at e1
     ·cases e1
     ·have a1:=Option.some.inj e1
      split at e2
      ·have a2:=Option.some.inj e2;omega
      ·split at e2
       ·cases e2
       ·have a2:=Option.some.inj e2;omega
   ·intro j'
    rw[AV _ _ _ hk]
    have hlen:((ws.getD c []).take k++(ws.getD c []).drop (k+2)).length=(ws.getD c []).length - 2:=by rw[List.length_append,List.length_take,List.length_drop];omega
    rw[hlen]
    constructor
    ·rintro ⟨q1,q2⟩
     refine .inl ?_
     by_cases z:j'<k
     ·rw[if_pos z]at q2;exact ⟨j',by omega,q2,by unfold outF;rw[if_pos z]⟩
     ·rw[if_neg z]at q2;exact ⟨j'+2,by omega,q2,by unfold outF;rw[if_neg (by omega),if_neg (by omega)];rfl⟩
    ·rintro (⟨i,q1,q2,q3⟩ | q)
     ·unfold outF at q3
      split at q3
      ·rename_i z;cases q3;rw[if_pos z];exact ⟨by omega,q2⟩
      ·split at q3
       ·cases q3
       ·cases q3
        rw[if_neg (by omega),show i - 2+2=i by omega]
        exact ⟨by omega,q2⟩
     ·cases q
   ·intro i j' _ _ q;cases q
 | turn c=>
  have hc:c<ws.length:=aX
  obtain ⟨wy,wz⟩:=gw.all _ (getD_mem hc)
  refine ⟨mK gw ⟨fun z hz=>?_,by rw[List.length_append,List.length_take,List.length_drop];omega⟩,by show (L.map _).length=_;rw[List.length_map];exact gl,fun j l b hl hb=>?_⟩
  ·rcases List.mem_append.mp hz with q | q
   ·exact wy z (List.mem_of_mem_drop q)
   ·exact wy z (List.mem_of_mem_take q)
  ·obtain ⟨l0,jG,rfl⟩:=Option.map_eq_some_iff.mp (by rw[<-List.getElem?_map];exact hl)
   have hp:=go j l0 b jG hb
   refine (hp.filterMap (dZ c (eY (ws.getD c []).length))).trans ((mJ (X:=[]) hc List.nodup_nil ?_ ?_ ?_).symm)
   ·intro i i' j' h1 h2 e1 e2
    unfold eY at e1 e2
    split at e1<;>split at e2<;>(have a1:=Option.some.inj e1;have a2:=Option.some.inj e2;omega)
   ·intro j'
    have hlen:((ws.getD c []).drop 1++(ws.getD c []).take 1).length=(ws.getD c []).length:=by rw[List.length_append,List.length_take,List.length_drop];omega
    rw[hlen]
    constructor
    ·rintro ⟨q1,q2⟩
     rw[kG _ _ q1]at q2
     refine .inl ?_
     by_cases z:j'+1<(ws.getD c []).length
     ·rw[if_pos z]at q2;exact ⟨j'+1,z,q2,by unfold eY;rw[if_neg (by omega)];rfl⟩
     ·rw[if_neg z]at q2;exact ⟨0,by omega,q2,by unfold eY;rw[if_pos rfl];congr 1;omega⟩
    ·rintro (⟨i,q1,q2,q3⟩ | q)
     ·unfold eY at q3
      split at q3
      ·rename_i z
       cases q3
       refine ⟨by omega,?_⟩
       rw[kG _ _ (by omega),if_neg (by omega)]
       rw[z]at q2
       exact q2
      ·cases q3
       refine ⟨by omega,?_⟩
       rw[kG _ _ (by omega),if_pos (by omega),show i - 1+1=i by omega]
       exact q2
     ·cases q
   ·intro i j' _ _ q;cases q
 | ins c k x n=>
  obtain ⟨hc,hk,LV,m_,hn⟩:=aX
  obtain ⟨wy,wz⟩:=gw.all _ (getD_mem hc)
  have wx:=hy.lt x m_
  refine ⟨mK gw ⟨fun z hz=>?_,by rw[List.length_append,List.length_append,List.length_append,List.length_take,List.length_drop,List.length_singleton,List.length_singleton];omega⟩,by show ((L.map _).set _ _).length=_;rw[List.length_set,List.length_map];exact gl,fun j l b hl hb=>?_⟩
  ·rcases List.mem_append.mp hz with q | q
   ·rcases List.mem_append.mp q with q | q
    ·rcases List.mem_append.mp q with q | q
     ·exact wy z (List.mem_of_mem_take q)
     ·rw[List.mem_singleton.mp q];exact m_
    ·rw[List.mem_singleton.mp q];exact hy.cl x m_
   ·exact wy z (List.mem_of_mem_drop q)
  ·have LW:=List.mem_of_getElem? hb
   have QJ:=bl b LW
   have xX:j<L.length:=by rw[gl];exact (List.getElem?_eq_some_iff.mp hb).1
   have QK:L[j]? =some L[j]:=List.getElem?_eq_getElem xX
   have hp:=go j _ b QK hb
   have base:(cG b (ws.set c ((ws.getD c []).take k++[x]++[bL x]++(ws.getD c []).drop k)) (ws.set c ((ws.getD c []).take k++[x]++[bL x]++(ws.getD c []).drop k)).length).Perm ((if uP b x=true then [k,k+1] else []).map (fun j=>(c,j))++bZ c (jh k) (cG b ws ws.length)):=by
    refine mJ hc ?_ ?_ ?_ ?_
    ·split
     ·simp
     ·exact List.nodup_nil
    ·intro i i' j' _ _ e1 e2
     unfold jh at e1 e2
     split at e1<;>split at e2<;>(have a1:=Option.some.inj e1;have a2:=Option.some.inj e2;omega)
    ·intro j'
     have hlen:((ws.getD c []).take k++[x]++[bL x]++(ws.getD c []).drop k).length=(ws.getD c []).length+2:=by rw[List.length_append,List.length_append,List.length_append,List.length_take,List.length_drop,List.length_singleton,List.length_singleton];omega
     rw[hlen,AW _ _ _ _ hk]
     constructor
     ·rintro ⟨q1,q2⟩
      by_cases z:j'<k
      ·rw[if_pos z]at q2;exact .inl ⟨j',by omega,q2,by unfold jh;rw[if_pos z]⟩
      ·rw[if_neg z]at q2
       by_cases z1:j'=k
       ·rw[if_pos z1]at q2;exact .inr (by rw[if_pos q2,z1];exact List.mem_cons_self)
       ·rw[if_neg z1]at q2
        by_cases z2:j'=k+1
        ·rw[if_pos z2,wu (.inl QJ) wx]at q2;exact .inr (by rw[if_pos q2,z2];exact List.mem_cons_of_mem _ List.mem_cons_self)
        ·rw[if_neg z2]at q2;exact .inl ⟨j' - 2,by omega,q2,by unfold jh;rw[if_neg (by omega)];congr 1;omega⟩
     ·rintro (⟨i,q1,q2,q3⟩ | q)
      ·unfold jh at q3
       split at q3
       ·rename_i z;cases q3;rw[if_pos z];exact ⟨by omega,q2⟩
       ·cases q3
        rw[if_neg (by omega),if_neg (by omega),if_neg (by omega),show i+2 - 2=i by omega]
        exact ⟨by omega,q2⟩
      ·split at q
       ·rename_i z
        rcases List.mem_cons.mp q with e | q
        ·rw[e,if_neg (by omega),if_pos rfl];exact ⟨by omega,z⟩
        ·rw[List.mem_singleton.mp q,if_neg (by omega),if_neg (by omega),if_pos rfl,wu (.inl QJ) wx];exact ⟨by omega,z⟩
       ·cases q
    ·intro i j' _ e1 q
     split at q
     ·unfold jh at e1
      have hq:j'=k\/j'=k+1:=by simpa using q
      split at e1<;>(have a1:=Option.some.inj e1;omega)
     ·cases q
   have E_:uP b x=decide (PyProof.Rows.lo1 x=b):=(qj QJ wx).symm
   rcases qt (show ((L.map (bZ c (jh k))).set ((aq y).idxOf (PyProof.Rows.lo1 x)) (put2 n (c,k) (c,k+1) (bZ c (jh k) (L.getD ((aq y).idxOf (PyProof.Rows.lo1 x)) []))))[j]? =some l from hl) with ⟨e1,e2⟩ | ⟨e1,e2⟩
   ·subst e1
    have y_:=mC hy m_
    have yX:b=PyProof.Rows.lo1 x:=by
     have hj:=List.idxOf_lt_length_of_mem y_
     rw[List.getElem?_eq_getElem hj,List.getElem_idxOf hj]at hb
     exact (Option.some.inj hb).symm
    rw[E_,decide_eq_true yX.symm,if_pos rfl]at base
    rw[e2,aK QK]
    exact (xW _ _ _ _).trans ((((hp.filterMap (dZ c (jh k))).cons _).cons _).trans base.symm)
   ·have gR: ¬PyProof.Rows.lo1 x=b:=fun z=>e1 (by
     have hj:=List.getElem?_eq_some_iff.mp hb
     have xY:(aq y).Nodup:=(dq y).nodup_iff.mpr (hy.nd.filter _)
     rw[z]
     exact (iA xY hb).symm)
    rw[E_,decide_eq_false gR,if_neg (by decide)]at base
    obtain ⟨l0,jG,rfl⟩:=Option.map_eq_some_iff.mp (by rw[<-List.getElem?_map];exact e2)
    rw[QK]at jG
    cases jG
    exact (hp.filterMap (dZ c (jh k))).trans base.symm
structure Dd where
 a:Addr
 e:eQ
noncomputable def AX (ds:List Dd):List V:=ds.map fun x=>V.ref x.a
theorem DD (ds:List Dd):(AX ds).length=ds.length:=by unfold AX;rw[List.length_map]
def Path (y:List Nat):List (List Nat)->cy->List eQ->Prop
 | _,_,[]=>True
 | ws,L,e::es=>DC y (aq y) ws L e/\Path y (dW ws e) (dO (aq y) ws L e) es
noncomputable def mL (y:List Nat):List (List Nat)->cy->List eQ->List (List Nat)×cy
 | ws,L,[]=>(ws,L)
 | ws,L,e::es=>mL y (dW ws e) (dO (aq y) ws L e) es
theorem oZ {y:List Nat} (hy:Yd y):(aq y).Nodup:=(dq y).nodup_iff.mpr (hy.nd.filter _)
theorem Good.len {y:List Nat} {ws:List (List Nat)} {os:List Od} (g:Good y ws (os.map bw)): ∀o∈os,o.ps.length<=160:=fun o ho=>by
 obtain ⟨j,hj⟩:=List.mem_iff_getElem?.mp ho
 have hl:=g.lk.1
 rw[List.length_map]at hl
 have LX:j<(aq y).length:=by rw[<-hl];exact (List.getElem?_eq_some_iff.mp hj).1
 have hp:=g.lk.2 j (bw o) _ (by rw[List.getElem?_map,hj];rfl) (List.getElem?_eq_getElem LX)
 have h1:=hp.length_eq
 unfold bw at h1
 rw[List.length_map]at h1
 have h2:=ju (aq y)[j] (fun w hw=>(g.wk.all w hw).2) ws.length (Nat.le_refl _)
 have:=g.wk.kX
 omega
theorem Good.hold {y:List Nat} {ws:List (List Nat)} {os:List Od} {H:Hp} {d wl:Addr} (hy:Yd y) (hz:y.length<=8) (g:Good y ws (os.map bw)) (h:bP H d (aq y) os) (hw:H wl=some (.lst (bX ws))) (ne: ∀o∈os,o.o≠wl):iw H d wl (aq y) os ws:=by
 have zg:=cK hy
 refine ⟨h,hw,oZ hy,by omega,ne,fun o ho p hp=>?_,g.wk.kX,fun w hw=>⟨fun c hc=>hy.lt c ((g.wk.all w hw).1 c hc),(g.wk.all w hw).2⟩⟩
 obtain ⟨j,hj⟩:=List.mem_iff_getElem?.mp ho
 have LX:j<(aq y).length:=by rw[<-h.ln];exact (List.getElem?_eq_some_iff.mp hj).1
 have jx:=g.lk.2 j (bw o) _ (by rw[List.getElem?_map,hj];rfl) (List.getElem?_eq_getElem LX)
 have hm:(p.c,p.i)∈bw o:=List.mem_map.mpr ⟨p,hp,rfl⟩
 obtain ⟨m1,m2,_⟩:=fb.mp (jx.mem_iff.mp hm)
 refine ⟨ws[p.c],List.getElem?_eq_getElem m1,?_⟩
 rw[aK (List.getElem?_eq_getElem m1)]at m2
 exact m2
theorem xZ {bs:List Nat} {cur:List Od} {b:Nat} {o:Od} (h:cur.length=bs.length):cW bs cur++[(kS [b],V.ref o.o)]=cW (bs++[b]) (cur++[o]):=by
 unfold cW
 rw[List.zip_append h.symm,List.map_append]
 rfl
theorem HL.Yv {y:List Nat} {ws:List (List Nat)} {os:List Od} (h:HL y ws os):VE y ws (os.map bw):=⟨by rw[List.length_map];exact h.1,fun j l b hl hb=>by
 rw[List.getElem?_map]at hl
 cases e:os[j]? with
 | none=>rw[e]at hl;cases hl
 | some o=>rw[e]at hl;cases hl;exact h.2 j o b e hb⟩
def o4 (_:PySem.W.Frag):Sp:=fun vs H Q _=> ∃(b:Addr) (y:List Nat) (dr:Addr) (ws:List (List Nat)) (os:List Od),vs=[.ref b, .str (S y), .ref dr]/\bD H b/\Yd y/\1<=y.length/\y.length<=8/\ws≠[]/\Good y ws (os.map bw)/\e_ H dr ws os/\
 ∀(a:Addr) (e:eQ) (H':Hp),fI H' a e->DC y (aq y) ws (os.map bw) e->aI b H H'->Q (.ref a) H'
theorem uV {K:PySem.W.Frag} {vs:List V} {H:Hp} {Q:VK} {E:XK} (h:o4 K vs H Q E):vs.length=3:=by obtain ⟨_,_,_,_,_,rfl,_⟩:=h;rfl
def Fb (ws:List (List Nat)) (p:Pr):Prop:=p.c<ws.length/\ ∃x,(ws.getD p.c [])[p.i]? =some x/\(ws.getD p.c [])[p.i+1]? =some (bL x)
theorem Good.kX {y:List Nat} {ws:List (List Nat)} {L:cy} (h:Good y ws L):ws.length<=4:=h.wk.kX
theorem Good.lr {y:List Nat} {ws:List (List Nat)} {L:cy} (h:Good y ws L): ∀w∈ws,(∀c∈w,c∈y)/\w.length<=40:=h.wk.all
theorem Good.ln {y:List Nat} {ws:List (List Nat)} {L:cy} (h:Good y ws L):L.length=(aq y).length:=h.lk.1
theorem DE {H5:Hp} {X:Hp->Prop} {G:Prop} (f:(∀H6,ai H5 H6->X H6)->G) (x: ∀H6,ai H5 H6->X H6):G:=f x
noncomputable def dl:eQ->Int
 | .swap _ _=>0
 | .out _ _=> -2
 | .turn _=>0
 | .ins _ _ _ _=>2
inductive Al (R:Nat->Nat×Nat->Prop):List Nat->List (Nat×Nat)->Prop
 | nil:Al R [] []
 | cons {n:Nat} {p:Nat×Nat} {o:List Nat} {l:List (Nat×Nat)}:R n p->Al R o l->Al R (n::o) (p::l)
section
variable {R S:Nat->Nat×Nat->Prop}
theorem Al.len: ∀{o:List Nat} {l:List (Nat×Nat)},Al R o l->o.length=l.length
 | _,_, .nil=>rfl
 | _,_, .cons _ h=>by rw[List.length_cons,List.length_cons,h.len]
theorem Al.app: ∀{a:List Nat} {b:List (Nat×Nat)} {c:List Nat} {d:List (Nat×Nat)},Al R a b->Al R c d->Al R (a++c) (b++d)
 | _,_,_,_, .nil,h=>h
 | _,_,_,_, .cons x y,h=> .cons x (y.app h)
theorem Al.take: ∀{o:List Nat} {l:List (Nat×Nat)} (k:Nat),Al R o l->Al R (o.take k) (l.take k)
 | _,_,0,_=> .nil
 | _,_,_+1, .nil=> .nil
 | _,_,k+1, .cons a b=> .cons a (b.take k)
theorem Al.drop: ∀{o:List Nat} {l:List (Nat×Nat)} (k:Nat),Al R o l->Al R (o.drop k) (l.drop k)
 | _,_,0,h=>h
 | _,_,_+1, .nil=> .nil
 | _,_,k+1, .cons _ b=>b.drop k
theorem Al.zv {c:Nat} {f:Nat->Option Nat} {P:Nat->Bool}: ∀{o:List Nat} {l:List (Nat×Nat)},(∀n p,n∈o->R n p->(P n=true-> ∃p',dZ c f p=some p'/\S n p')/\(P n=false->dZ c f p=none))->Al R o l->Al S (o.filter P) (bZ c f l)
 | _,_,_, .nil=> .nil
 | n::o,p::l,h, .cons a b=>by
  have ih:=b.zv fun n p hn=>h n p (List.mem_cons_of_mem _ hn)
  obtain ⟨h1,h2⟩:=h n p List.mem_cons_self a
  unfold bZ at*
  cases e:P n with
  | true=>
   obtain ⟨p',e1,e2⟩:=h1 e
   rw[List.filter_cons_of_pos e,List.filterMap_cons_some e1]
   exact .cons e2 ih
  | false=>
   rw[List.filter_cons_of_neg (by rw[e];decide),List.filterMap_cons_none (h2 e)]
   exact ih
theorem Al.VF {c:Nat} {f:Nat->Option Nat} {o:List Nat} {l:List (Nat×Nat)} (h: ∀n p,n∈o->R n p-> ∃p',dZ c f p=some p'/\S n p') (a:Al R o l):Al S o (bZ c f l):=by
 have:=a.zv (S:=S) (c:=c) (f:=f) (P:=fun _=>true) fun n p hn hr=>⟨fun _=>h n p hn hr,fun z=>by cases z⟩
 rwa [List.filter_eq_self.mpr (fun _ _=>rfl)]at this
theorem Al.HQ: ∀{o:List Nat} {l:List (Nat×Nat)} {k:Nat},Al R o l->k+1<o.length-> ∃a u v d a' p q d',o=a++u::v::d/\l=a'++p::q::d'/\a.length=k/\a'.length=k/\Al R a a'/\R u p/\R v q/\Al R d d'
 | _,_,0, .cons x (.cons y z),_=>⟨[],_,_,_,[],_,_,_,rfl,rfl,rfl,rfl, .nil,x,y,z⟩
 | _,_,k+1, .cons x y,h=>by
  obtain ⟨a,u,v,d,a',p,q,d',e1,e2,e3,e4,e5,e6⟩:=y.HQ (k:=k) (by simpa using h)
  exact ⟨_::a,u,v,d,_::a',p,q,d',by rw[e1];rfl,by rw[e2];rfl,by simp[e3],by simp[e4], .cons x e5,e6⟩
 | _,_,0, .cons x .nil,h=>absurd h (by simp)
 | _,_,_, .nil,h=>absurd h (by simp)
noncomputable def iB (k:Nat) (o:List Nat):List Nat:=(o.eraseIdx (k+1)).take k++o.getD (k+1) 0::(o.eraseIdx (k+1)).drop k
theorem si (a d:List Nat) (u v:Nat):iB a.length (a++u::v::d)=a++v::u::d:=by
 have e1:(a++u::v::d).eraseIdx (a.length+1)=a++u::d:=by
  rw[List.eraseIdx_append_of_length_le (by omega)]
  simp
 have e2:(a++u::v::d).getD (a.length+1) 0=v:=by
  rw[List.getD_eq_getElem?_getD,List.getElem?_append_right (by omega)]
  simp
 unfold iB
 rw[e1,e2]
 simp
theorem AY (a d:List (Nat×Nat)) (p q:Nat×Nat):gO a.length (a++p::q::d)=a++q::p::d:=by
 unfold gO
 have e1:(a++p::q::d)[a.length]? =some p:=by simp
 have e2:(a++p::q::d)[a.length+1]? =some q:=by rw[List.getElem?_append_right (by omega)];simp
 rw[e1,e2]
 show ((a++p::q::d).set a.length q).set (a.length+1) p=_
 rw[List.set_append_right _ _ (Nat.le_refl _),Nat.sub_self,List.set_cons_zero,List.set_append_right _ _ (by omega)]
 simp
theorem Al.swap {o:List Nat} {l:List (Nat×Nat)} {k:Nat} (h:Al R o l) (hk:k+1<o.length):Al R (iB k o) (gO k l):=by
 obtain ⟨a,u,v,d,a',p,q,d',rfl,rfl,e3,e4,e5,e6,e7,e8⟩:=h.HQ hk
 subst e3
 rw[si, <-e4,AY]
 exact e5.app (.cons e7 (.cons e6 e8))
theorem Al.put2 {o:List Nat} {l:List (Nat×Nat)} {k m m':Nat} {p q:Nat×Nat} (h:Al R o l) (hp:R m p) (hq:R m' q):Al R (o.take k++m::m'::o.drop k) (put2 k p q l):=(h.take k).app (.cons hp (.cons hq (h.drop k)))
end
abbrev WN:=List (List (Nat×Nat))
def gT (W:WN) (n:Nat) (p:Nat×Nat):Prop:= ∃w x,W[p.1]? =some w/\w[p.2]? =some (x,n)
def Own (W:WN):Prop:= ∀n p q,gT W n p->gT W n q->p=q
theorem dG {W:WN} {c:Nat} {w':List (Nat×Nat)} {n:Nat} {p:Nat×Nat} (hc:c<W.length):gT (W.set c w') n p↔if p.1=c then ∃x,w'[p.2]? =some (x,n) else gT W n p:=by
 unfold gT
 by_cases e:p.1=c
 ·rw[if_pos e,e,List.getElem?_set_self hc]
  exact ⟨fun ⟨w,x,h1,h2⟩=>⟨x,by cases h1;exact h2⟩,fun ⟨x,h⟩=>⟨w',x,rfl,h⟩⟩
 ·rw[if_neg e,List.getElem?_set_ne (Ne.symm e)]
theorem AZ {W:WN} {c:Nat} {w:List (Nat×Nat)} {n:Nat} {p:Nat×Nat} (hw:W[c]? =some w) (h:gT W n p): ∃p',dZ c (eY w.length) p=some p'/\gT (W.set c (w.drop 1++w.take 1)) n p':=by
 have hc:=(List.getElem?_eq_some_iff.mp hw).1
 obtain ⟨v,x,h1,h2⟩:=h
 unfold dZ
 by_cases e:p.1=c
 ·rw[e,hw]at h1
  cases h1
  have hi:=(List.getElem?_eq_some_iff.mp h2).1
  rw[if_pos e]
  unfold eY
  by_cases z:p.2=0
  ·rw[if_pos z]
   refine ⟨(c,w.length - 1),rfl,(dG hc).mpr ?_⟩
   rw[if_pos rfl]
   refine ⟨x,?_⟩
   show (w.drop 1++w.take 1)[w.length - 1]? =_
   rw[List.getElem?_append_right (by rw[List.length_drop];exact Nat.le_refl _),List.length_drop,Nat.sub_self,List.getElem?_take,if_pos (by decide), <-z]
   exact h2
  ·rw[if_neg z]
   refine ⟨(c,p.2 - 1),rfl,(dG hc).mpr ?_⟩
   rw[if_pos rfl]
   refine ⟨x,?_⟩
   show (w.drop 1++w.take 1)[p.2 - 1]? =_
   rw[List.getElem?_append_left (by rw[List.length_drop];omega),List.getElem?_drop,show 1+(p.2 - 1)=p.2 by omega]
   exact h2
 ·rw[if_neg e]
  refine ⟨p,rfl,(dG hc).mpr ?_⟩
  rw[if_neg e]
  exact ⟨v,x,h1,h2⟩
theorem HR {W:WN} {c k:Nat} {w:List (Nat×Nat)} {n:Nat} {p a b:Nat×Nat} (hw:W[c]? =some w) (hk:k<=w.length) (h:gT W n p): ∃p',dZ c (jh k) p=some p'/\gT (W.set c (w.take k++a::b::w.drop k)) n p':=by
 have hc:=(List.getElem?_eq_some_iff.mp hw).1
 obtain ⟨v,x,h1,h2⟩:=h
 have ht:(w.take k).length=k:=by rw[List.length_take];omega
 unfold dZ
 by_cases e:p.1=c
 ·rw[e,hw]at h1
  cases h1
  have hi:=(List.getElem?_eq_some_iff.mp h2).1
  rw[if_pos e]
  unfold jh
  by_cases z:p.2<k
  ·rw[if_pos z]
   refine ⟨(c,p.2),rfl,(dG hc).mpr ?_⟩
   rw[if_pos rfl]
   refine ⟨x,?_⟩
   show (w.take k++a::b::w.drop k)[p.2]? =_
   rw[List.getElem?_append_left (by omega),List.getElem?_take,if_pos z]
   exact h2
  ·rw[if_neg z]
   refine ⟨(c,p.2+2),rfl,(dG hc).mpr ?_⟩
   rw[if_pos rfl]
   refine ⟨x,?_⟩
   show (w.take k++a::b::w.drop k)[p.2+2]? =_
   rw[List.getElem?_append_right (by omega),ht,show p.2+2 - k=(p.2 - k)+1+1 by omega,List.getElem?_cons_succ,List.getElem?_cons_succ,List.getElem?_drop,show k+(p.2 - k)=p.2 by omega]
   exact h2
 ·rw[if_neg e]
  refine ⟨p,rfl,(dG hc).mpr ?_⟩
  rw[if_neg e]
  exact ⟨v,x,h1,h2⟩
theorem DF {W:WN} {c k:Nat} {w:List (Nat×Nat)} {n:Nat} {p a b:Nat×Nat} (own:Own W) (hw:W[c]? =some w) (ha:w[k]? =some a) (hb:w[k+1]? =some b) (h:gT W n p):
  ((decide (n≠a.2)&&decide (n≠b.2))=true-> ∃p',dZ c (outF k) p=some p'/\gT (W.set c (w.take k++w.drop (k+2))) n p')/\((decide (n≠a.2)&&decide (n≠b.2))=false->dZ c (outF k) p=none):=by
 have hc:=(List.getElem?_eq_some_iff.mp hw).1
 have HS:=(List.getElem?_eq_some_iff.mp hb).1
 have ht:(w.take k).length=k:=by rw[List.length_take];omega
 have pa:gT W a.2 (c,k):=⟨w,a.1,hw,ha⟩
 have pb:gT W b.2 (c,k+1):=⟨w,b.1,hw,hb⟩
 constructor
 ·intro hn
  rw[Bool.and_eq_true,decide_eq_true_eq,decide_eq_true_eq]at hn
  obtain ⟨v,x,h1,h2⟩:=h
  unfold dZ
  by_cases e:p.1=c
  ·rw[e,hw]at h1
   cases h1
   rw[if_pos e]
   unfold outF
   have n1:p.2≠k:=fun z=>hn.1 (by rw[z,ha]at h2;exact (congrArg Prod.snd (Option.some.inj h2)).symm)
   have n2:p.2≠k+1:=fun z=>hn.2 (by rw[z,hb]at h2;exact (congrArg Prod.snd (Option.some.inj h2)).symm)
   by_cases z:p.2<k
   ·rw[if_pos z]
    refine ⟨(c,p.2),rfl,(dG hc).mpr ?_⟩
    rw[if_pos rfl]
    refine ⟨x,?_⟩
    show (w.take k++w.drop (k+2))[p.2]? =_
    rw[List.getElem?_append_left (by omega),List.getElem?_take,if_pos z]
    exact h2
   ·rw[if_neg z,if_neg (by omega)]
    refine ⟨(c,p.2 - 2),rfl,(dG hc).mpr ?_⟩
    rw[if_pos rfl]
    refine ⟨x,?_⟩
    show (w.take k++w.drop (k+2))[p.2 - 2]? =_
    rw[List.getElem?_append_right (by omega),ht,List.getElem?_drop,show k+2+(p.2 - 2 - k)=p.2 by omega]
    exact h2
  ·rw[if_neg e]
   refine ⟨p,rfl,(dG hc).mpr ?_⟩
   rw[if_neg e]
   exact ⟨v,x,h1,h2⟩
 ·intro hn
  have:n=a.2\/n=b.2:=by
   by_cases z:n=a.2
   ·exact .inl z
   ·right
    rw[decide_eq_true (show n≠a.2 from z),Bool.true_and,decide_eq_false_iff_not]at hn
    exact Decidable.not_not.mp hn
  rcases this with z | z
  ·rw[z]at h
   rw[own _ _ _ h pa]
   unfold dZ outF
   rw[if_pos rfl,if_neg (Nat.lt_irrefl _),if_pos (by show k<k+2;omega)]
   rfl
  ·rw[z]at h
   rw[own _ _ _ h pb]
   unfold dZ outF
   rw[if_pos rfl,if_neg (by show ¬k+1<k;omega),if_pos (by show k+1<k+2;omega)]
   rfl
noncomputable def nums (W:WN):List Nat:=W.flatMap fun w=>w.map Prod.snd
theorem mM: ∀{W:WN} {n:Nat} {p:Nat×Nat},gT W n p->n∈nums W:=fun {W n p} ⟨w,x,h1,h2⟩=>List.mem_flatMap.mpr ⟨w,List.mem_of_getElem? h1,List.mem_map.mpr ⟨(x,n),List.mem_of_getElem? h2,rfl⟩⟩
theorem qu: ∀{W:WN},(nums W).Nodup->Own W
 | [],_=>fun n p q ⟨w,x,h,_⟩ _=>by simp at h
 | w::W,hn=>fun n p q hp hq=>by
  have e:nums (w::W)=w.map Prod.snd++nums W:=rfl
  rw[e,List.nodup_append]at hn
  obtain ⟨n1,n2,n3⟩:=hn
  have ih:=qu n2
  obtain ⟨pc,pi⟩:=p
  obtain ⟨qc,qi⟩:=q
  obtain ⟨u,x,h1,h2⟩:=hp
  obtain ⟨v,x',g1,g2⟩:=hq
  have Of: ∀{i:Nat} {x:Nat},w[i]? =some (x,n)->(w.map Prod.snd)[i]? =some n:=fun {i x} h=>by rw[List.getElem?_map,h];rfl
  cases pc with
  | zero=>
   cases h1
   cases qc with
   | zero=>
    cases g1
    have a1:=Of h2
    have a2:=Of g2
    obtain ⟨b1,b2⟩:=List.getElem?_eq_some_iff.mp a1
    obtain ⟨c1,c2⟩:=List.getElem?_eq_some_iff.mp a2
    have:pi=qi:=(List.getElem_inj n1).mp (b2.trans c2.symm)
    rw[this]
   | succ qc=>exact absurd rfl (n3 n (List.mem_of_getElem? (Of h2)) n (mM (p:=(qc,qi)) ⟨v,x',g1,g2⟩))
  | succ pc=>
   cases qc with
   | zero=>
    cases g1
    exact absurd rfl (n3 n (List.mem_of_getElem? (Of g2)) n (mM (p:=(pc,pi)) ⟨u,x,h1,h2⟩))
   | succ qc=>
    have:=ih n (pc,pi) (qc,qi) ⟨u,x,h1,h2⟩ ⟨v,x',g1,g2⟩
    rw[Prod.mk.injEq]at this
    rw[this.1,this.2]
theorem mP {W:WN} {c:Nat} {w w':List (Nat×Nat)} (hw:W[c]? =some w): ∃a b,nums W=a++w.map Prod.snd++b/\nums (W.set c w')=a++w'.map Prod.snd++b:=by
 obtain ⟨hc,e⟩:=List.getElem?_eq_some_iff.mp hw
 refine ⟨nums (W.take c),nums (W.drop (c+1)),?_,?_⟩
 ·have:W=W.take c++w::W.drop (c+1):=by rw[<-e, <-List.drop_eq_getElem_cons hc,List.take_append_drop]
  have e2:nums W=nums (W.take c++w::W.drop (c+1)):=congrArg nums this
  rw[e2]
  unfold nums
  rw[List.flatMap_append,List.flatMap_cons,List.append_assoc]
 ·rw[List.set_eq_take_append_cons_drop,if_pos hc]
  unfold nums
  rw[List.flatMap_append,List.flatMap_cons,List.append_assoc]
structure Wd (W:WN) (O:List (List Nat)) (L:List (List (Nat×Nat))) (m:Nat):Prop where
 nd:(nums W).Nodup
 sm: ∀n∈nums W,n<m
 ln:O.length=L.length
 al: ∀(j:Nat) (o:List Nat) (l:List (Nat×Nat)),O[j]? =some o->L[j]? =some l->Al (gT W) o l
 on: ∀o∈O,o.Nodup
noncomputable def lets (W:WN):List (List Nat):=W.map fun w=>w.map Prod.fst
theorem Wd.own {W:WN} {O:List (List Nat)} {L:List (List (Nat×Nat))} {m:Nat} (h:Wd W O L m):Own W:=qu h.nd
theorem Al.mem {R:Nat->Nat×Nat->Prop}: ∀{o:List Nat} {l:List (Nat×Nat)} {n:Nat},Al R o l->n∈o-> ∃p,R n p
 | _,_,_, .cons a b,h=>by
  rcases List.mem_cons.mp h with z | z
  ·rw[z];exact ⟨_,a⟩
  ·exact b.mem z
theorem Wd.swap {W:WN} {O:List (List Nat)} {L:List (List (Nat×Nat))} {m j k:Nat} {o:List Nat} (h:Wd W O L m) (ho:O[j]? =some o) (hk:k+1<o.length):Wd W (O.set j (iB k o)) (L.set j (gO k (L.getD j []))) m:=by
 have hj:=(List.getElem?_eq_some_iff.mp ho).1
 have xX:j<L.length:=by rw[<-h.ln];exact hj
 have hl:L[j]? =some L[j]:=List.getElem?_eq_getElem xX
 have a:=h.al j o _ ho hl
 refine ⟨h.nd,h.sm,by rw[List.length_set,List.length_set];exact h.ln,fun i o' l' e1 e2=>?_,fun o' gf=>?_⟩
 ·by_cases e:j=i
  ·subst e
   rw[List.getElem?_set_self hj]at e1
   rw[List.getElem?_set_self xX,List.getD_eq_getElem?_getD,hl]at e2
   cases e1;cases e2
   exact a.swap hk
  ·rw[List.getElem?_set_ne e]at e1 e2
   exact h.al i o' l' e1 e2
 ·rcases List.mem_or_eq_of_mem_set gf with z | z
  ·exact h.on o' z
  ·rw[z]
   obtain ⟨a',u,v,d,_,_,_,_,e1,_,e3,_⟩:=a.HQ hk
   have hn:=h.on o (List.mem_of_getElem? ho)
   subst e3
   rw[e1]at hn ⊢
   rw[si]
   exact ((List.Perm.swap u v d).append_left a').nodup_iff.mpr hn
theorem Wd.turn {W:WN} {O:List (List Nat)} {L:List (List (Nat×Nat))} {m c:Nat} {w:List (Nat×Nat)} (h:Wd W O L m) (hw:W[c]? =some w):Wd (W.set c (w.drop 1++w.take 1)) O (L.map (bZ c (eY w.length))) m:=by
 obtain ⟨a,b,e1,e2⟩:=mP (w':=w.drop 1++w.take 1) hw
 have pm:(nums (W.set c (w.drop 1++w.take 1))).Perm (nums W):=by
  rw[e1,e2]
  refine (List.Perm.append_left a ?_).append_right b
  rw[List.map_append]
  refine List.perm_append_comm.trans ?_
  rw[<-List.map_append,List.take_append_drop]
 refine ⟨pm.nodup_iff.mpr h.nd,fun n hn=>h.sm n (pm.mem_iff.mp hn),by rw[List.length_map];exact h.ln,fun j o l h1 h2=>?_,h.on⟩
 rw[List.getElem?_map]at h2
 cases e:L[j]? with
 | none=>rw[e]at h2;cases h2
 | some l0=>
  rw[e]at h2
  cases h2
  exact (h.al j o l0 h1 e).VF fun n p _ hr=>AZ hw hr
theorem Wd.out {W:WN} {O:List (List Nat)} {L:List (List (Nat×Nat))} {m c k:Nat} {w:List (Nat×Nat)} {a b:Nat×Nat} (h:Wd W O L m) (hw:W[c]? =some w) (ha:w[k]? =some a) (hb:w[k+1]? =some b):
  Wd (W.set c (w.take k++w.drop (k+2))) (O.map fun o=>o.filter fun n=>decide (n≠a.2)&&decide (n≠b.2)) (L.map (bZ c (outF k))) m:=by
 obtain ⟨u,v,e1,e2⟩:=mP (w':=w.take k++w.drop (k+2)) hw
 have sb:(nums (W.set c (w.take k++w.drop (k+2)))).Sublist (nums W):=by
  rw[e1,e2]
  refine (List.Sublist.append_left ?_ u).append_right v
  refine List.Sublist.map _ ?_
  have:(w.take k++w.drop (k+2)).Sublist (w.take k++w.drop k):=List.Sublist.append_left (by rw[<-List.drop_drop];exact List.drop_sublist _ _) _
  rwa [List.take_append_drop]at this
 refine ⟨h.nd.sublist sb,fun n hn=>h.sm n (sb.subset hn),by rw[List.length_map,List.length_map];exact h.ln,fun j o l h1 h2=>?_,fun o ho=>?_⟩
 ·rw[List.getElem?_map]at h1 h2
  cases e:L[j]? with
  | none=>rw[e]at h2;cases h2
  | some l0=>
   cases e':O[j]? with
   | none=>rw[e']at h1;cases h1
   | some o0=>
    rw[e]at h2
    rw[e']at h1
    cases h1;cases h2
    exact (h.al j o0 l0 e' e).zv fun n p _ hr=>DF h.own hw ha hb hr
 ·obtain ⟨o0,h0,rfl⟩:=List.mem_map.mp ho
  exact (h.on o0 h0).filter _
theorem Wd.ins {W:WN} {O:List (List Nat)} {L:List (List (Nat×Nat))} {m c k j n x x':Nat} {w:List (Nat×Nat)} {o:List Nat} (h:Wd W O L m) (hw:W[c]? =some w) (hk:k<=w.length) (ho:O[j]? =some o):
  Wd (W.set c (w.take k++(x,m)::(x',m+1)::w.drop k)) (O.set j (o.take n++m::(m+1)::o.drop n)) ((L.map (bZ c (jh k))).set j (put2 n (c,k) (c,k+1) (bZ c (jh k) (L.getD j [])))) (m+2):=by
 obtain ⟨u,v,e1,e2⟩:=mP (w':=w.take k++(x,m)::(x',m+1)::w.drop k) hw
 have hc:=(List.getElem?_eq_some_iff.mp hw).1
 have hj:=(List.getElem?_eq_some_iff.mp ho).1
 have xX:j<L.length:=by rw[<-h.ln];exact hj
 have hl:L[j]? =some L[j]:=List.getElem?_eq_getElem xX
 have ht:(w.take k).length=k:=by rw[List.length_take];omega
 have mid: ∀(α:Type) (p q:List α) (s t:α),(p++s::t::q).Perm (s::t::(p++q)):=fun α p q s t=>List.perm_middle.trans ((List.perm_middle (a:=t)).cons s)
 have pm:(nums (W.set c (w.take k++(x,m)::(x',m+1)::w.drop k))).Perm (m::(m+1)::nums W):=by
  rw[e1,e2,List.map_append,List.map_cons,List.map_cons]
  refine (((mid _ _ _ _ _).append_left u).append_right v).trans ?_
  rw[<-List.map_append,List.take_append_drop]
  show (u++m::(m+1)::w.map Prod.snd++v).Perm _
  rw[List.append_assoc]
  refine (mid _ _ _ _ _).trans ?_
  rw[List.append_assoc]
  exact List.Perm.refl _
 have fresh: ∀n∈nums W,n≠m/\n≠m+1:=fun n hn=>by have:=h.sm n hn;omega
 have nm: ∀o∈O, ∀n∈o,n∈nums W:=fun o' gf n hn=>by
  obtain ⟨i,hi⟩:=List.mem_iff_getElem?.mp gf
  have La:i<L.length:=by rw[<-h.ln];exact (List.getElem?_eq_some_iff.mp hi).1
  obtain ⟨p,hp⟩:=(h.al i o' _ hi (List.getElem?_eq_getElem La)).mem hn
  exact mM hp
 have a0: ∀(i:Nat) (o':List Nat) (l':List (Nat×Nat)),O[i]? =some o'->L[i]? =some l'->Al (gT (W.set c (w.take k++(x,m)::(x',m+1)::w.drop k))) o' (bZ c (jh k) l'):=fun i o' l' g1 g2=>(h.al i o' l' g1 g2).VF fun n p _ hr=>HR hw hk hr
 refine ⟨?_,fun n hn=>?_,by rw[List.length_set,List.length_set,List.length_map];exact h.ln,fun i o' l' g1 g2=>?_,fun o' gf=>?_⟩
 ·rw[pm.nodup_iff,List.nodup_cons,List.nodup_cons]
  refine ⟨fun z=>?_,fun z=>(fresh _ z).2 rfl,h.nd⟩
  rcases List.mem_cons.mp z with z | z
  ·omega
  ·exact (fresh _ z).1 rfl
 ·rcases List.mem_cons.mp (pm.mem_iff.mp hn) with z | z
  ·omega
  ·rcases List.mem_cons.mp z with z | z
   ·omega
   ·have:=h.sm n z;omega
 ·by_cases e:j=i
  ·subst e
   rw[List.getElem?_set_self hj]at g1
   rw[List.getElem?_set_self (by rw[List.length_map];exact xX),List.getD_eq_getElem?_getD,hl]at g2
   cases g1;cases g2
   refine (a0 j o _ ho hl).put2 ((dG hc).mpr ?_) ((dG hc).mpr ?_)
   ·rw[if_pos rfl]
    refine ⟨x,?_⟩
    show (w.take k++(x,m)::(x',m+1)::w.drop k)[k]? =_
    rw[List.getElem?_append_right (by omega),ht,Nat.sub_self];rfl
   ·rw[if_pos rfl]
    refine ⟨x',?_⟩
    show (w.take k++(x,m)::(x',m+1)::w.drop k)[k+1]? =_
    rw[List.getElem?_append_right (by omega),ht,show k+1 - k=1 by omega];rfl
  ·rw[List.getElem?_set_ne e]at g1 g2
   rw[List.getElem?_map]at g2
   cases e':L[i]? with
   | none=>rw[e']at g2;cases g2
   | some l0=>rw[e']at g2;cases g2;exact a0 i o' l0 g1 e'
 ·rcases List.mem_or_eq_of_mem_set gf with z | z
  ·exact h.on o' z
  ·rw[z]
   have dU:=List.mem_of_getElem? ho
   rw[(mid _ _ _ _ _).nodup_iff,List.take_append_drop,List.nodup_cons,List.nodup_cons]
   refine ⟨fun z=>?_,fun z=>(fresh _ (nm o dU _ z)).2 rfl,h.on o dU⟩
   rcases List.mem_cons.mp z with z | z
   ·omega
   ·exact (fresh _ (nm o dU _ z)).1 rfl
noncomputable def aW (W:WN) (m:Nat):eQ->WN
 | .swap _ _=>W
 | .out c k=>W.set c ((W.getD c []).take k++(W.getD c []).drop (k+2))
 | .turn c=>W.set c ((W.getD c []).drop 1++(W.getD c []).take 1)
 | .ins c k x _=>W.set c ((W.getD c []).take k++(x,m)::(bL x,m+1)::(W.getD c []).drop k)
noncomputable def aO (bs:List Nat) (W:WN) (O:List (List Nat)) (m:Nat):eQ->List (List Nat)
 | .swap b n=>O.set (bs.idxOf b) (iB n (O.getD (bs.idxOf b) []))
 | .out c k=>O.map fun o=>o.filter fun n=>decide (n≠((W.getD c []).getD k (0,0)).2)&&decide (n≠((W.getD c []).getD (k+1) (0,0)).2)
 | .turn _=>O
 | .ins _ _ x n=>O.set (bs.idxOf (PyProof.Rows.lo1 x)) ((O.getD (bs.idxOf (PyProof.Rows.lo1 x)) []).take n++m::(m+1)::(O.getD (bs.idxOf (PyProof.Rows.lo1 x)) []).drop n)
noncomputable def aM (m:Nat):eQ->Nat
 | .ins _ _ _ _=>m+2
 | _=>m
theorem bU (W:WN):(lets W).length=W.length:=by unfold lets;rw[List.length_map]
theorem cq {W:WN} {c:Nat} (hc:c<W.length):(lets W).getD c []=(W.getD c []).map Prod.fst:=by
 rw[aK (List.getElem?_eq_getElem hc),aK (show (lets W)[c]? =some ((W[c]).map Prod.fst) by unfold lets;rw[List.getElem?_map,List.getElem?_eq_getElem hc];rfl)]
theorem mQ (W:WN) (c:Nat) (w:List (Nat×Nat)):lets (W.set c w)=(lets W).set c (w.map Prod.fst):=by unfold lets;rw[List.map_set]
theorem Wd.step {y:List Nat} {W:WN} {O:List (List Nat)} {L:cy} {m:Nat} {e:eQ} (hy:Yd y) (h:Wd W O L m) (hL:L.length=(aq y).length) (ok:DC y (aq y) (lets W) L e):
  Wd (aW W m e) (aO (aq y) W O m e) (dO (aq y) (lets W) L e) (aM m e)/\lets (aW W m e)=dW (lets W) e:=by
 cases e with
 | swap b n=>
  obtain ⟨hb,hn⟩:=ok
  have hj:(aq y).idxOf b<O.length:=by rw[h.ln,hL];exact List.idxOf_lt_length_of_mem hb
  have xX:(aq y).idxOf b<L.length:=by rw[<-h.ln];exact hj
  have ho:=List.getElem?_eq_getElem hj
  have hlen:=(h.al _ _ _ ho (List.getElem?_eq_getElem xX)).len
  rw[aK (List.getElem?_eq_getElem xX)]at hn
  refine ⟨?_,rfl⟩
  show Wd W (O.set _ (iB n (O.getD _ []))) (L.set _ (gO n (L.getD _ []))) m
  rw[aK ho]
  exact h.swap ho (by omega)
 | out c k=>
  obtain ⟨hc,x,h1,h2⟩:=ok
  rw[bU]at hc
  rw[cq hc]at h1 h2
  have hw:=List.getElem?_eq_getElem hc
  have eg:W.getD c []=W[c]:=aK hw
  rw[eg]at h1 h2
  have hk:k<W[c].length:=by have:=(List.getElem?_eq_some_iff.mp h1).1;rwa [List.length_map]at this
  have HS:k+1<W[c].length:=by have:=(List.getElem?_eq_some_iff.mp h2).1;rwa [List.length_map]at this
  have ha:=List.getElem?_eq_getElem hk
  have hb:=List.getElem?_eq_getElem HS
  constructor
  ·show Wd (W.set c ((W.getD c []).take k++(W.getD c []).drop (k+2))) (O.map fun o=>o.filter fun n=>decide (n≠((W.getD c []).getD k (0,0)).2)&&decide (n≠((W.getD c []).getD (k+1) (0,0)).2)) (L.map (bZ c (outF k))) m
   rw[eg,aK ha,aK hb]
   exact h.out hw ha hb
  ·show lets (W.set c _)=(lets W).set c (((lets W).getD c []).take k++((lets W).getD c []).drop (k+2))
   rw[mQ,cq hc,List.map_append,List.map_take,List.map_drop]
 | turn c=>
  have hc:c<W.length:=by rw[<-bU];exact ok
  have hw:=List.getElem?_eq_getElem hc
  have eg:W.getD c []=W[c]:=aK hw
  constructor
  ·show Wd (W.set c ((W.getD c []).drop 1++(W.getD c []).take 1)) O (L.map (bZ c (eY ((lets W).getD c []).length))) m
   rw[cq hc,List.length_map,eg]
   exact h.turn hw
  ·show lets (W.set c _)=(lets W).set c (((lets W).getD c []).drop 1++((lets W).getD c []).take 1)
   rw[mQ,cq hc,List.map_append,List.map_take,List.map_drop]
 | ins c k x n=>
  obtain ⟨hc,h1,h2,hx,hn⟩:=ok
  rw[bU]at hc
  rw[cq hc,List.length_map]at h1
  have hw:=List.getElem?_eq_getElem hc
  have eg:W.getD c []=W[c]:=aK hw
  have hj:(aq y).idxOf (PyProof.Rows.lo1 x)<O.length:=by rw[h.ln,hL];exact List.idxOf_lt_length_of_mem (mC hy hx)
  have ho:=List.getElem?_eq_getElem hj
  constructor
  ·show Wd (W.set c ((W.getD c []).take k++(x,m)::(bL x,m+1)::(W.getD c []).drop k)) (O.set _ ((O.getD _ []).take n++m::(m+1)::(O.getD _ []).drop n)) ((L.map (bZ c (jh k))).set _ (put2 n (c,k) (c,k+1) (bZ c (jh k) (L.getD _ [])))) (m+2)
   rw[eg]at h1 ⊢
   rw[aK ho]
   exact h.ins hw h1 ho
  ·show lets (W.set c _)=(lets W).set c (((lets W).getD c []).take k++[x]++[bL x]++((lets W).getD c []).drop k)
   rw[mQ,cq hc,List.map_append,List.map_cons,List.map_cons,List.map_take,List.map_drop]
   simp
structure Lc where
 a:Addr
 x:Nat
 n:Nat
structure Wc where
 a:Addr
 ls:List Lc
structure Oc where
 a:Addr
 ns:List Nat
noncomputable def Lc.pr (l:Lc):Nat×Nat:=(l.x,l.n)
noncomputable def Wc.w (c:Wc):List (Nat×Nat):=c.ls.map Lc.pr
noncomputable def cT (ls:List Lc):List V:=ls.map fun l=>V.ref l.a
noncomputable def iC (Ws:List Wc):List V:=Ws.map fun c=>V.ref c.a
noncomputable def gC (Os:List Oc):List V:=Os.map fun o=>V.ref o.a
noncomputable def cX:List Nat:=[119,111,114,100,115]
noncomputable def cI:List Nat:=[111,114,100,101,114,115]
noncomputable def gq:List Nat:=[109,97,110,121]
noncomputable def sj (wl ol:Addr) (m:Nat):List (Key×V):=[(kS cX, .ref wl),(kS cI, .ref ol),(kS gq, .int m)]
structure dH (H:Hp) (d wl ol:Addr) (Ws:List Wc) (Os:List Oc) (m:Nat):Prop where
 dk:H d=some (.dK (sj wl ol m))
 wd:H wl=some (.lst (iC Ws))
 od:H ol=some (.lst (gC Os))
 wc: ∀c∈Ws,H c.a=some (.lst (cT c.ls))
 lc: ∀c∈Ws, ∀l∈c.ls,H l.a=some (.lst [.str (S [l.x]), .int l.n])
 oc: ∀o∈Os,H o.a=some (.lst (fH o.ns))
 nd:(wl::ol::(Ws.map Wc.a++Os.map Oc.a)).Nodup
 nl: ∀c∈Ws, ∀l∈c.ls,l.a∉wl::ol::(Ws.map Wc.a++Os.map Oc.a)
noncomputable def oW (Ws:List Wc):WN:=Ws.map Wc.w
noncomputable def oO (Os:List Oc):List (List Nat):=Os.map Oc.ns
noncomputable def o5 (d wl ol:Addr) (Ws:List Wc) (Os:List Oc):List Addr:=d::wl::ol::(Ws.map Wc.a++Os.map Oc.a)
def mR (_:PySem.W.Frag):Sp:=fun vs H Q _=> ∃(y:List Nat) (dr:Addr) (ws:List (List Nat)) (os:List Od),vs=[.ref dr]/\Yd y/\y.length<=8/\Good y ws (os.map bw)/\e_ H dr ws os/\
 ∀(d wl ol:Addr) (Ws:List Wc) (Os:List Oc) (m:Nat) (H':Hp),dH H' d wl ol Ws Os m->(∀a∈o5 d wl ol Ws Os,H a=none)->lets (oW Ws)=ws->Wd (oW Ws) (oO Os) (os.map bw) m->m<=160->ai H H'->Q (.ref d) H'
theorem sk {K:PySem.W.Frag} {vs:List V} {H:Hp} {Q:VK} {E:XK} (h:mR K vs H Q E):vs.length=1:=by obtain ⟨_,_,_,_,rfl,_⟩:=h;rfl
def sq (_:PySem.W.Frag):Sp:=fun vs H Q _=> ∃(y:List Nat) (d wl ol:Addr) (Ws:List Wc) (Os:List Oc) (L:cy) (m:Nat),vs=[.ref d]/\Yd y/\y.length<=8/\dH H d wl ol Ws Os m/\Wd (oW Ws) (oO Os) L m/\Good y (lets (oW Ws)) L/\m<=1000000/\
 ∀(dr:Addr) (os:List Od) (H':Hp),e_ H' dr (lets (oW Ws)) os->os.map bw=L->ai H H'->Q (.ref dr) H'
theorem x_ {K:PySem.W.Frag} {vs:List V} {H:Hp} {Q:VK} {E:XK} (h:sq K vs H Q E):vs.length=1:=by obtain ⟨_,_,_,_,_,_,_,_,rfl,_⟩:=h;rfl
def o6 (_:PySem.W.Frag):Sp:=fun vs H Q _=> ∃(y:List Nat) (d wl ol a:Addr) (Ws:List Wc) (Os:List Oc) (L:cy) (m:Nat) (e:eQ),vs=[.str (S y), .ref d, .ref a]/\Yd y/\y.length<=8/\dH H d wl ol Ws Os m/\Wd (oW Ws) (oO Os) L m/\Good y (lets (oW Ws)) L/\m<=1000000/\fI H a e/\DC y (aq y) (lets (oW Ws)) L e/\
 ∀(LY:List Wc) (LZ:List Oc) (H':Hp),dH H' d wl ol LY LZ (aM m e)->oW LY=aW (oW Ws) m e->oO LZ=aO (aq y) (oW Ws) (oO Os) m e->(∀x∈o5 d wl ol LY LZ,H x=none\/x∈o5 d wl ol Ws Os)->(∀x u,H x=some u->x∉o5 d wl ol Ws Os->H' x=some u)->Q (.bl true) H'
theorem uW {K:PySem.W.Frag} {vs:List V} {H:Hp} {Q:VK} {E:XK} (h:o6 K vs H Q E):vs.length=3:=by obtain ⟨_,_,_,_,_,_,_,_,_,_,rfl,_⟩:=h;rfl
noncomputable def gJ (p:Nat×Nat):List Key:=[Sum.inl (p.1:Int),Sum.inl (p.2:Int)]
theorem A0 {p q:Nat×Nat} (h:gJ p=gJ q):p=q:=by
 unfold gJ at h
 obtain ⟨a,b⟩:=p
 obtain ⟨c,d⟩:=q
 have h1:=Sum.inl.inj (List.cons.inj h).1
 have h2:=Sum.inl.inj (List.cons.inj (List.cons.inj h).2).1
 have e1:a=c:=Int.ofNat.inj h1
 have e2:b=d:=Int.ofNat.inj h2
 rw[e1,e2]
structure j9 (W:WN) (kvs:List (List Key×V)) (m:Nat):Prop where
 nm:nums W=List.range m
 kl:kvs.length=m
 hit: ∀n p,gT W n p->cf kvs (gJ p)=some (.int (n:Nat))
 bY: ∀p,(∀n, ¬gT W n p)->cf kvs (gJ p)=none
theorem fc {W:WN} {w:List (Nat×Nat)} {n:Nat} {p:Nat×Nat}:gT (W++[w]) n p↔gT W n p\/(p.1=W.length/\ ∃x,w[p.2]? =some (x,n)):=by
 unfold gT
 constructor
 ·rintro ⟨v,x,h1,h2⟩
  rcases Nat.lt_trichotomy p.1 W.length with g | g | g
  ·rw[List.getElem?_append_left g]at h1;exact .inl ⟨v,x,h1,h2⟩
  ·rw[List.getElem?_append_right (by omega),g,Nat.sub_self]at h1
   cases h1
   exact .inr ⟨g,x,h2⟩
  ·rw[List.getElem?_append_right (by omega)]at h1
   obtain ⟨k,hk⟩: ∃k,p.1 - W.length=k+1:=⟨p.1 - W.length - 1,by omega⟩
   rw[hk]at h1
   cases h1
 ·rintro (⟨v,x,h1,h2⟩ | ⟨g,x,h2⟩)
  ·exact ⟨v,x,by rw[List.getElem?_append_left (List.getElem?_eq_some_iff.mp h1).1];exact h1,h2⟩
  ·exact ⟨w,x,by rw[List.getElem?_append_right (by omega),g,Nat.sub_self];rfl,h2⟩
theorem mS (W:WN) (w:List (Nat×Nat)):nums (W++[w])=nums W++w.map Prod.snd:=by unfold nums;rw[List.flatMap_append];simp
theorem j9.new {W:WN} {kvs:List (List Key×V)} {m:Nat} (h:j9 W kvs m):j9 (W++[[]]) kvs m:=by
 have e: ∀n p,gT (W++[[]]) n p↔gT W n p:=fun n p=>fc.trans ⟨fun z=>z.elim id fun ⟨_,x,g⟩=>by simp at g, .inl⟩
 exact ⟨by rw[mS,h.nm];simp,h.kl,fun n p z=>h.hit n p ((e n p).mp z),fun p z=>h.bY p fun n y=>z n ((e n p).mpr y)⟩
theorem j9.push {W:WN} {w:List (Nat×Nat)} {kvs:List (List Key×V)} {m x:Nat} (h:j9 (W++[w]) kvs m):
  cf kvs (gJ (W.length,w.length))=none/\j9 (W++[w++[(x,m)]]) (putK kvs (gJ (W.length,w.length)) (.int (m:Nat))) (m+1):=by
 have o7:cf kvs (gJ (W.length,w.length))=none:=h.bY _ fun n z=>by
  rcases fc.mp z with ⟨v,y,h1,_⟩ | ⟨_,y,h1⟩
  ·rw[List.getElem?_eq_none (Nat.le_refl _)]at h1;cases h1
  ·rw[List.getElem?_eq_none (Nat.le_refl _)]at h1;cases h1
 have e: ∀n p,gT (W++[w++[(x,m)]]) n p↔gT (W++[w]) n p\/(n=m/\p=(W.length,w.length)):=fun n p=>by
  obtain ⟨pc,pi⟩:=p
  rw[fc,fc]
  constructor
  ·rintro (g | ⟨g,y,h2⟩)
   ·exact .inl (.inl g)
   ·simp only at g h2
    rcases Nat.lt_trichotomy pi w.length with z | z | z
    ·rw[List.getElem?_append_left z]at h2;exact .inl (.inr ⟨g,y,h2⟩)
    ·rw[z,List.getElem?_append_right (Nat.le_refl _),Nat.sub_self]at h2
     cases h2
     exact .inr ⟨rfl,by rw[g,z]⟩
    ·rw[List.getElem?_eq_none (by simp;omega)]at h2;cases h2
  ·rintro ((g | ⟨g,y,h2⟩) | ⟨g1,g2⟩)
   ·exact .inl g
   ·exact .inr ⟨g,y,by rw[List.getElem?_append_left (List.getElem?_eq_some_iff.mp h2).1];exact h2⟩
   ·cases g2
    exact .inr ⟨rfl,x,by rw[g1,List.getElem?_append_right (Nat.le_refl _),Nat.sub_self];rfl⟩
 refine ⟨o7,?_,?_,fun n p hp=>?_,fun p hp=>?_⟩
 ·rw[mS,List.map_append, <-List.append_assoc, <-mS,h.nm,List.range_succ];rfl
 ·rw[ig _ o7,List.length_append,h.kl];rfl
 ·rw[jY]
  rcases (e n p).mp hp with g | ⟨g1,g2⟩
  ·by_cases z:gJ p=gJ (W.length,w.length)
   ·have:=h.hit n p g
    rw[z,o7]at this;cases this
   ·rw[if_neg z];exact h.hit n p g
  ·rw[g1,g2,if_pos rfl]
 ·rw[jY,if_neg fun z=>hp m ((e m p).mpr (.inr ⟨rfl,A0 z⟩))]
  exact h.bY p fun n z=>hp n ((e n p).mpr (.inl z))
structure iD (H:Hp) (wl:Addr) (Ws:List Wc):Prop where
 wd:H wl=some (.lst (iC Ws))
 wc: ∀c∈Ws,H c.a=some (.lst (cT c.ls))
 lc: ∀c∈Ws, ∀l∈c.ls,H l.a=some (.lst [.str (S [l.x]), .int l.n])
 nd:(wl::Ws.map Wc.a).Nodup
 nl: ∀c∈Ws, ∀l∈c.ls,l.a∉wl::Ws.map Wc.a
theorem iD.same {H H':Hp} {wl:Addr} {Ws:List Wc} (h:iD H wl Ws) (s:ai H H'):iD H' wl Ws:=⟨s _ _ h.wd,fun c hc=>s _ _ (h.wc c hc),fun c hc l hl=>s _ _ (h.lc c hc l hl),h.nd,h.nl⟩
theorem iD.dict {H:Hp} {wl d:Addr} {Ws:List Wc} {k k':List (List Key×V)} (h:iD H wl Ws) (hd:H d=some (.dT k)):iD (upd H d (.dT k')) wl Ws:=by
 have ne: ∀{a:Addr} {xs:List V},H a=some (.lst xs)->a≠d:=fun e z=>by rw[z,hd]at e;cases e
 exact ⟨by rw[aj (ne h.wd)];exact h.wd,fun c hc=>by rw[aj (ne (h.wc c hc))];exact h.wc c hc,fun c hc l hl=>by rw[aj (ne (h.lc c hc l hl))];exact h.lc c hc l hl,h.nd,h.nl⟩
theorem iD.live {H:Hp} {wl a:Addr} {Ws:List Wc} (h:iD H wl Ws) (ha:a∈wl::Ws.map Wc.a): ∃u,H a=some u:=by
 rcases List.mem_cons.mp ha with z | z
 ·exact ⟨_,by rw[z];exact h.wd⟩
 ·obtain ⟨c,hc,e⟩:=List.mem_map.mp z
  exact ⟨_,by rw[<-e];exact h.wc c hc⟩
theorem A1 (Ws:List Wc) (c:Wc):iC Ws++[V.ref c.a]=iC (Ws++[c]):=by unfold iC;rw[List.map_append];rfl
theorem A2 (ls:List Lc) (l:Lc):cT ls++[V.ref l.a]=cT (ls++[l]):=by unfold cT;rw[List.map_append];rfl
theorem iD.new {H:Hp} {wl t:Addr} {Ws:List Wc} (h:iD H wl Ws) (n:H t=none):iD (upd (upd H t (.lst [])) wl (.lst (iC (Ws++[⟨t,[]⟩])))) wl (Ws++[⟨t,[]⟩]):=by
 have h1:=h.same (ai.upd (o:=HO.lst []) n)
 have hf:t∉wl::Ws.map Wc.a:=fun z=>by obtain ⟨u,e⟩:=h.live z;rw[e]at n;cases n
 have Ci:wl≠t:=fun z=>hf (by rw[z];exact List.mem_cons_self)
 obtain ⟨n1,n2⟩:=List.nodup_cons.mp h.nd
 have nw: ∀c∈Ws,c.a≠wl:=fun c hc z=>n1 (by rw[<-z];exact List.mem_map.mpr ⟨c,hc,rfl⟩)
 refine ⟨ae,fun c hc=>?_,fun c hc l hl=>?_,?_,fun c hc l hl=>?_⟩
 ·rcases List.mem_append.mp hc with g | g
  ·rw[aj (nw c g)];exact h1.wc c g
  ·rw[List.mem_singleton.mp g,aj (Ne.symm Ci),ae];rfl
 ·rcases List.mem_append.mp hc with g | g
  ·rw[aj fun z=>h.nl c g l hl (by rw[z];exact List.mem_cons_self)];exact h1.lc c g l hl
  ·rw[List.mem_singleton.mp g]at hl;exact absurd hl List.not_mem_nil
 ·rw[List.map_append]
  show (wl::(Ws.map Wc.a++[t])).Nodup
  rw[<-List.cons_append,List.nodup_append]
  exact ⟨h.nd,by simp,fun a ha b hb z=>hf (by rw[List.mem_singleton.mp hb]at z;rw[<-z];exact ha)⟩
 ·rcases List.mem_append.mp hc with g | g
  ·rw[List.map_append, <-List.cons_append]
   intro z
   rcases List.mem_append.mp z with y | y
   ·exact h.nl c g l hl y
   ·have e:=List.mem_singleton.mp y
    have:=h.lc c g l hl
    rw[e]at this
    rw[show H t=_ from this]at n;cases n
  ·rw[List.mem_singleton.mp g]at hl;exact absurd hl List.not_mem_nil
theorem iD.push {H:Hp} {wl t p:Addr} {Ws:List Wc} {ls:List Lc} {x n:Nat} (h:iD H wl (Ws++[⟨t,ls⟩])) (np:H p=none):
  iD (upd (upd H p (.lst [.str (S [x]), .int n])) t (.lst (cT (ls++[⟨p,x,n⟩])))) wl (Ws++[⟨t,ls++[⟨p,x,n⟩]⟩]):=by
 have h1:=h.same (ai.upd (o:=HO.lst [.str (S [x]), .int n]) np)
 have gS:upd H p (HO.lst [.str (S [x]), .int n]) p=some (HO.lst [.str (S [x]), .int n]):=ae
 have hf:p∉wl::(Ws++[(⟨t,ls⟩:Wc)]).map Wc.a:=fun z=>by obtain ⟨u,e⟩:=h.live z;rw[e]at np;cases np
 have em:(Ws++[(⟨t,ls++[⟨p,x,n⟩]⟩:Wc)]).map Wc.a=(Ws++[(⟨t,ls⟩:Wc)]).map Wc.a:=by rw[List.map_append,List.map_append];rfl
 have mt:t∈(Ws++[(⟨t,ls⟩:Wc)]).map Wc.a:=List.mem_map.mpr ⟨⟨t,ls⟩,List.mem_append.mpr (.inr (List.mem_singleton.mpr rfl)),rfl⟩
 obtain ⟨n1,n2⟩:=List.nodup_cons.mp h.nd
 have Ci:wl≠t:=fun z=>n1 (by rw[z];exact mt)
 have Yw:p≠t:=fun z=>hf (by rw[z];exact List.mem_cons_of_mem _ mt)
 have nt: ∀c∈Ws,c.a≠t:=fun c hc z=>by
  rw[List.map_append,List.nodup_append]at n2
  exact n2.2.2 c.a (List.mem_map.mpr ⟨c,hc,rfl⟩) t (by simp) z
 have ml:(⟨t,ls⟩:Wc)∈Ws++[(⟨t,ls⟩:Wc)]:=List.mem_append.mpr (.inr (List.mem_singleton.mpr rfl))
 have lt: ∀c∈Ws++[(⟨t,ls⟩:Wc)], ∀l∈c.ls,l.a≠t:=fun c hc l hl z=>h.nl c hc l hl (by rw[z];exact List.mem_cons_of_mem _ mt)
 refine ⟨?_,fun c hc=>?_,fun c hc l hl=>?_,by rw[em];exact h.nd,fun c hc l hl=>?_⟩
 ·rw[aj Ci,h1.wd]
  unfold iC
  rw[List.map_append,List.map_append];rfl
 ·rcases List.mem_append.mp hc with g | g
  ·rw[aj (nt c g)];exact h1.wc c (List.mem_append_left _ g)
  ·rw[List.mem_singleton.mp g];exact ae
 ·rcases List.mem_append.mp hc with g | g
  ·rw[aj (lt c (List.mem_append_left _ g) l hl)];exact h1.lc c (List.mem_append_left _ g) l hl
  ·rw[List.mem_singleton.mp g]at hl
   rcases List.mem_append.mp hl with y | y
   ·rw[aj (lt _ ml l y)];exact h1.lc _ ml l y
   ·rw[List.mem_singleton.mp y,aj Yw];exact gS
 ·rw[em]
  rcases List.mem_append.mp hc with g | g
  ·exact h.nl c (List.mem_append_left _ g) l hl
  ·rw[List.mem_singleton.mp g]at hl
   rcases List.mem_append.mp hl with y | y
   ·exact h.nl _ ml l y
   ·rw[List.mem_singleton.mp y];exact hf
theorem fJ {H H':Hp} {a:Addr} {o:HO} (s:ai H H') (n:H a=none):ai H (upd H' a o):=fun b u e=>by rw[aj (ao e n)];exact s b u e
theorem A3 (Ws:List Wc) (c:Wc):oW (Ws++[c])=oW Ws++[c.w]:=by unfold oW;rw[List.map_append];rfl
theorem mT (Ws:List Wc):(oW Ws).length=Ws.length:=by unfold oW;rw[List.length_map]
theorem A4 (W:WN) (w:List (Nat×Nat)):lets (W++[w])=lets W++[w.map Prod.fst]:=by unfold lets;rw[List.map_append];rfl
theorem Wc.HU (t:Addr) (ls:List Lc) (l:Lc):(⟨t,ls++[l]⟩:Wc).w=(⟨t,ls⟩:Wc).w++[(l.x,l.n)]:=by unfold Wc.w;rw[List.map_append];rfl
theorem Wc.L0 (t:Addr) (ls:List Lc):(⟨t,ls⟩:Wc).w.length=ls.length:=by unfold Wc.w;rw[List.length_map]
theorem Wc.L3 (t:Addr) (ls:List Lc):(⟨t,ls⟩:Wc).w.map Prod.fst=ls.map Lc.x:=by unfold Wc.w;rw[List.map_map];rfl
theorem cO (Ws:List Wc):(iC Ws).length=Ws.length:=by unfold iC;rw[List.length_map]
theorem cJ (ls:List Lc):(cT ls).length=ls.length:=by unfold cT;rw[List.length_map]
theorem uX {W:WN} {ws:List (List Nat)} {c i:Nat} (h:lets W=ws) (hc:c<ws.length) (hi:i<(ws.getD c []).length): ∃n,gT W n (c,i):=by
 subst h
 rw[bU]at hc
 rw[cq hc,List.length_map]at hi
 rw[aK (List.getElem?_eq_getElem hc)]at hi
 exact ⟨(W[c][i]).2,W[c],(W[c][i]).1,List.getElem?_eq_getElem hc,List.getElem?_eq_getElem hi⟩
theorem Good.has {y:List Nat} {ws:List (List Nat)} {L:cy} {W:WN} (g:Good y ws L) (h:lets W=ws) {j:Nat} {l:List (Nat×Nat)} (hl:L[j]? =some l):(∀p∈l, ∃n,gT W n p)/\l.Nodup:=by
 have hj:j<(aq y).length:=by rw[<-g.lk.1];exact (List.getElem?_eq_some_iff.mp hl).1
 have hp:=g.lk.2 j l _ hl (List.getElem?_eq_getElem hj)
 refine ⟨fun p hm=>?_,hp.nodup_iff.mpr (jw _ _ _)⟩
 obtain ⟨c,i⟩:=p
 obtain ⟨h1,h2,_⟩:=fb.mp (hp.mem_iff.mp hm)
 exact uX h h1 h2
theorem Al.nodup {R:Nat->Nat×Nat->Prop} (own: ∀n p q,R n p->R n q->p=q): ∀{o:List Nat} {l:List (Nat×Nat)},Al R o l->l.Nodup->o.Nodup
 | _,_, .nil,_=>List.nodup_nil
 | n::o,p::l, .cons a b,h=>by
  obtain ⟨h1,h2⟩:=List.nodup_cons.mp h
  refine List.nodup_cons.mpr ⟨fun z=>h1 ?_,b.nodup own h2⟩
  have: ∀{o:List Nat} {l:List (Nat×Nat)},Al R o l->n∈o->p∈l:=fun {o l} al=>by
   induction al with
   | nil=>intro z;exact absurd z List.not_mem_nil
   | cons r _ ih=>
    intro z
    rcases List.mem_cons.mp z with e | e
    ·subst e;rw[own _ _ _ a r];exact List.mem_cons_self
    ·exact List.mem_cons_of_mem _ (ih e)
  exact this b z
theorem A5 (Os:List Oc) (o:Oc):gC Os++[V.ref o.a]=gC (Os++[o]):=by unfold gC;rw[List.map_append];rfl
theorem ya (ns:List Nat) (n:Nat):fH ns++[V.int (n:Nat)]=fH (ns++[n]):=by unfold fH;rw[List.map_append];rfl
theorem Al.snoc {R:Nat->Nat×Nat->Prop} {o:List Nat} {l:List (Nat×Nat)} {n:Nat} {p:Nat×Nat} (h:Al R o l) (r:R n p):Al R (o++[n]) (l++[p]):=h.app (.cons r .nil)
theorem DG {os:List Od} {i:Nat} {x:V} (h:(lG os)[i]? =some x): ∃o,os[i]? =some o/\x=V.ref o.o:=by
 unfold lG at h
 rw[List.getElem?_map]at h
 cases e:os[i]? with
 | none=>rw[e]at h;cases h
 | some o=>rw[e]at h;cases h;exact ⟨o,rfl,rfl⟩
structure A6 (H0 H:Hp) (W:WN) (L:cy) (Os:List Oc):Prop where
 oc: ∀o∈Os,H o.a=some (.lst (fH o.ns))
 al: ∀(j:Nat) (o:Oc) (l:List (Nat×Nat)),Os[j]? =some o->L[j]? =some l->Al (gT W) o.ns l
 nd:(Os.map Oc.a).Nodup
 fr: ∀o∈Os,H0 o.a=none
theorem A6.snoc {H0 H H':Hp} {W:WN} {L:cy} {Os:List Oc} {o:Oc} {l:List (Nat×Nat)} (h:A6 H0 H W L Os) (s:ai H H') (so:ai H0 H) (no:H o.a=none) (ho:H' o.a=some (.lst (fH o.ns))) (hl:L[Os.length]? =some l) (al:Al (gT W) o.ns l):A6 H0 H' W L (Os++[o]):=by
 refine ⟨fun x hx=>?_,fun j x l' h1 h2=>?_,?_,fun x hx=>?_⟩
 ·rcases List.mem_append.mp hx with g | g
  ·exact s _ _ (h.oc x g)
  ·rw[List.mem_singleton.mp g];exact ho
 ·rcases Nat.lt_trichotomy j Os.length with g | g | g
  ·rw[List.getElem?_append_left g]at h1;exact h.al j x l' h1 h2
  ·subst g
   rw[List.getElem?_append_right (Nat.le_refl _),Nat.sub_self]at h1
   cases h1
   rw[hl]at h2;cases h2
   exact al
  ·rw[List.getElem?_eq_none (by simp;omega)]at h1;cases h1
 ·rw[List.map_append,List.nodup_append]
  refine ⟨h.nd,by simp,fun a ha b hb z=>?_⟩
  obtain ⟨x,hx,e⟩:=List.mem_map.mp ha
  have e2:b=o.a:=by simpa using hb
  have:=h.oc x hx
  rw[e,z,e2,no]at this;cases this
 ·rcases List.mem_append.mp hx with g | g
  ·exact h.fr x g
  ·rw[List.mem_singleton.mp g];exact ai.free so no
theorem DH {y:List Nat} {ws:List (List Nat)} {L:cy} {H0 H:Hp} {W:WN} {Os:List Oc} {kvs:List (List Key×V)} {m:Nat} (g:Good y ws L) (h:lets W=ws) (hn:j9 W kvs m) (ho:A6 H0 H W L Os) (hl:Os.length=L.length):Wd W (oO Os) L m:=by
 have nd:(nums W).Nodup:=by rw[hn.nm];exact List.nodup_range
 refine ⟨nd,fun n hm=>by rw[hn.nm]at hm;exact List.mem_range.mp hm,by unfold oO;rw[List.length_map];exact hl,fun j o l h1 h2=>?_,fun o hm=>?_⟩
 ·unfold oO at h1
  rw[List.getElem?_map]at h1
  cases e:Os[j]? with
  | none=>rw[e]at h1;cases h1
  | some x=>rw[e]at h1;cases h1;exact ho.al j x l e h2
 ·unfold oO at hm
  obtain ⟨x,hx,rfl⟩:=List.mem_map.mp hm
  obtain ⟨j,hj,e⟩:=List.mem_iff_getElem.mp hx
  have e1:Os[j]? =some x:=by rw[List.getElem?_eq_getElem hj,e]
  have jd:L[j]? =some L[j]:=List.getElem?_eq_getElem (by omega)
  exact (ho.al j x _ e1 jd).nodup (qu nd) (g.has h jd).2
theorem yb (wl ol:Addr) (m:Nat):ij [] [(kS cX,V.ref wl),(kS cI,V.ref ol),(kS gq,V.int (m:Nat))]=sj wl ol m:=by
 have n1:cf (κ:=Key) [(kS cX,V.ref wl)] (kS cI)=none:=by rw[bu (fun z=>absurd (eB z) (by decide))];rfl
 have n2:cf (κ:=Key) [(kS cX,V.ref wl),(kS cI,V.ref ol)] (kS gq)=none:=by rw[bu (fun z=>absurd (eB z) (by decide)),bu (fun z=>absurd (eB z) (by decide))];rfl
 unfold ij
 rw[List.foldl_cons,List.foldl_cons,List.foldl_cons,List.foldl_nil]
 rw[show putK (κ:=Key) [] (kS cX) (V.ref wl)=[(kS cX,V.ref wl)] from ig _ rfl,ig _ n1]
 exact ig _ n2
theorem A7 {H:Hp} {wl ol:Addr} {as bs:List Addr} (h1:(wl::as).Nodup) (l1: ∀a∈wl::as, ∃u,H a=some u) (n:H ol=none) (h2:bs.Nodup) (l2: ∀b∈bs,H b=none) (h3:ol∉bs):(wl::ol::(as++bs)).Nodup:=by
 have Og: ∀a∈wl::as, ∀b,H b=none->a≠b:=fun a ha b hb z=>by obtain ⟨u,e⟩:=l1 a ha;rw[z,hb]at e;cases e
 obtain ⟨g1,g2⟩:=List.nodup_cons.mp h1
 refine List.nodup_cons.mpr ⟨fun z=>?_,List.nodup_cons.mpr ⟨fun z=>?_,List.nodup_append.mpr ⟨g2,h2,fun a ha b hb=>Og a (List.mem_cons_of_mem _ ha) b (l2 b hb)⟩⟩⟩
 ·rcases List.mem_cons.mp z with e | z
  ·exact Og wl List.mem_cons_self ol n e
  ·rcases List.mem_append.mp z with z | z
   ·exact g1 z
   ·exact Og wl List.mem_cons_self wl (l2 _ z) rfl
 ·rcases List.mem_append.mp z with z | z
  ·exact Og ol (List.mem_cons_of_mem _ z) ol n rfl
  ·exact h3 z
noncomputable def kI (n:Nat):Key:=Sum.inl (n:Int)
theorem HV {a b:Nat} (h:kI a=kI b):a=b:=Int.ofNat.inj (Sum.inl.inj h)
def mU (W:WN) (kvs:List (Key×V)) (H:Hp):Prop:= ∀n p,gT W n p-> ∃t,cf kvs (kI n)=some (.ref t)/\H t=some (.tup [.int p.1, .int p.2])
theorem A8 {W:WN} {w:List (Nat×Nat)} {n:Nat}: ¬gT (W++[w]) n (W.length,w.length):=fun z=>by
 rcases fc.mp z with ⟨v,y,h1,_⟩ | ⟨_,y,h1⟩
 ·rw[List.getElem?_eq_none (Nat.le_refl _)]at h1;cases h1
 ·rw[List.getElem?_eq_none (Nat.le_refl _)]at h1;cases h1
theorem sr {W:WN} {w:List (Nat×Nat)} {x m n:Nat} {p:Nat×Nat}:gT (W++[w++[(x,m)]]) n p↔gT (W++[w]) n p\/(n=m/\p=(W.length,w.length)):=by
 obtain ⟨pc,pi⟩:=p
 rw[fc,fc]
 constructor
 ·rintro (g | ⟨g,y,h2⟩)
  ·exact .inl (.inl g)
  ·simp only at g h2
   rcases Nat.lt_trichotomy pi w.length with z | z | z
   ·rw[List.getElem?_append_left z]at h2;exact .inl (.inr ⟨g,y,h2⟩)
   ·rw[z,List.getElem?_append_right (Nat.le_refl _),Nat.sub_self]at h2
    cases h2
    exact .inr ⟨rfl,by rw[g,z]⟩
   ·rw[List.getElem?_eq_none (by simp;omega)]at h2;cases h2
 ·rintro ((g | ⟨g,y,h2⟩) | ⟨g1,g2⟩)
  ·exact .inl g
  ·exact .inr ⟨g,y,by rw[List.getElem?_append_left (List.getElem?_eq_some_iff.mp h2).1];exact h2⟩
  ·cases g2
   exact .inr ⟨rfl,x,by rw[g1,List.getElem?_append_right (Nat.le_refl _),Nat.sub_self];rfl⟩
theorem mU.ts {W:WN} {kvs:List (Key×V)} {H H':Hp} (h:mU W kvs H) (s:aC H H'):mU W kvs H':=fun n p z=>by
 obtain ⟨t,h1,h2⟩:=h n p z
 exact ⟨t,h1,s _ _ h2⟩
theorem mU.put {W:WN} {w:List (Nat×Nat)} {x n:Nat} {kvs:List (Key×V)} {H:Hp} {t:Addr} (h:mU (W++[w]) kvs H) (own:Own (W++[w++[(x,n)]])) (ht:H t=some (.tup [.int (W.length:Nat), .int (w.length:Nat)])):
  mU (W++[w++[(x,n)]]) (putK kvs (kI n) (.ref t)) H:=fun n' p z=>by
 rw[jY]
 rcases sr.mp z with g | ⟨g1,g2⟩
 ·have gR:kI n'≠kI n:=fun e=>by
   have e:=HV e
   subst e
   have:=own _ _ _ z (sr.mpr (.inr ⟨rfl,rfl⟩))
   rw[this]at g
   exact A8 g
  rw[if_neg gR]
  exact h n' p g
 ·subst g1;subst g2
  rw[if_pos rfl]
  exact ⟨t,rfl,ht⟩
theorem su {W:WN} {w:List (Nat×Nat)} {j k n:Nat} {p:Nat×Nat} (hw:W[j]? =some w) (h:gT (W.take j++[w.take k]) n p):gT W n p:=by
 have hj:=(List.getElem?_eq_some_iff.mp hw).1
 have hl:(W.take j).length=j:=by rw[List.length_take];omega
 rcases fc.mp h with ⟨v,y,h1,h2⟩ | ⟨g,y,h2⟩
 ·have:=(List.getElem?_eq_some_iff.mp h1).1
  rw[List.getElem?_take,if_pos (by omega)]at h1
  exact ⟨v,y,h1,h2⟩
 ·rw[hl]at g
  have hk:p.2<k:=by have:=(List.getElem?_eq_some_iff.mp h2).1;rw[List.length_take]at this;omega
  rw[List.getElem?_take,if_pos hk]at h2
  exact ⟨w,y,by rw[g];exact hw,h2⟩
theorem A9 {W:WN} {w:List (Nat×Nat)} {j k:Nat} (own:Own W) (hw:W[j]? =some w):Own (W.take j++[w.take k]):=fun n p q hp hq=>own n p q (su hw hp) (su hw hq)
theorem mU.nil {W:WN} {kvs:List (Key×V)} {H:Hp} (h:mU W kvs H):mU (W++[[]]) kvs H:=fun n p z=>by
 rcases fc.mp z with g | ⟨_,y,g⟩
 ·exact h n p g
 ·simp at g
theorem A_ {Ws:List Wc} {i:Nat} {x:V} (h:(iC Ws)[i]? =some x): ∃c,Ws[i]? =some c/\x=V.ref c.a:=by
 unfold iC at h
 rw[List.getElem?_map]at h
 cases e:Ws[i]? with
 | none=>rw[e]at h;cases h
 | some o=>rw[e]at h;cases h;exact ⟨o,rfl,rfl⟩
theorem Ba {ls:List Lc} {i:Nat} {x:V} (h:(cT ls)[i]? =some x): ∃l,ls[i]? =some l/\x=V.ref l.a:=by
 unfold cT at h
 rw[List.getElem?_map]at h
 cases e:ls[i]? with
 | none=>rw[e]at h;cases h
 | some o=>rw[e]at h;cases h;exact ⟨o,rfl,rfl⟩
theorem Bb {Os:List Oc} {i:Nat} {x:V} (h:(gC Os)[i]? =some x): ∃c,Os[i]? =some c/\x=V.ref c.a:=by
 unfold gC at h
 rw[List.getElem?_map]at h
 cases e:Os[i]? with
 | none=>rw[e]at h;cases h
 | some o=>rw[e]at h;cases h;exact ⟨o,rfl,rfl⟩
theorem qv (Os:List Oc):(gC Os).length=Os.length:=by unfold gC;rw[List.length_map]
theorem kH (wl ol:Addr) (m:Nat):cf (sj wl ol m) (kS cX)=some (.ref wl):=bT rfl
theorem jy (wl ol:Addr) (m:Nat):cf (sj wl ol m) (kS cI)=some (.ref ol):=by
 unfold sj
 rw[bu (fun z=>absurd (eB z) (by decide))]
 exact bT rfl
theorem sy (wl ol:Addr) (m:Nat):cf (sj wl ol m) (kS gq)=some (.int (m:Nat)):=by
 unfold sj
 rw[bu (fun z=>absurd (eB z) (by decide)),bu (fun z=>absurd (eB z) (by decide))]
 exact bT rfl
theorem Wc.nE (c:Wc):c.w.length=c.ls.length:=by unfold Wc.w;rw[List.length_map]
theorem mV {H:Hp} {p:Addr} {ys:List (Key×V)} {o:HO} (h:H p=some (.dK ys)):aC H (upd H p o):=fun c xs e=>by
 rw[aj fun z=>by rw[z,h]at e;cases e];exact e
theorem yc (ws:List (List Nat)) (i:Nat) (w:List Nat) (h:ws[i]? =some w):bX (ws.take i)++[V.str (S w)]=bX (ws.take (i+1)):=by rw[rT,List.take_succ,h];rfl
theorem ye (l:List Nat) (k x:Nat) (h:l[k]? =some x):bO (l.take k)++[V.str (S [x])]=bO (l.take (k+1)):=by rw[j5,List.take_succ,h];rfl
theorem Good.HW {y:List Nat} {ws:List (List Nat)} {L:cy} (g:Good y ws L) {j:Nat} {l:List (Nat×Nat)} (hl:L[j]? =some l):l.length<=160:=by
 have hj:j<(aq y).length:=by rw[<-g.lk.1];exact (List.getElem?_eq_some_iff.mp hl).1
 rw[(g.lk.2 j l _ hl (List.getElem?_eq_getElem hj)).length_eq]
 have h2:=ju (aq y)[j] (fun w hw=>(g.wk.all w hw).2) ws.length (Nat.le_refl _)
 have:=g.wk.kX
 omega
theorem Good.small {y:List Nat} {ws:List (List Nat)} {L:cy} (g:Good y ws L) {j:Nat} {l:List (Nat×Nat)} (hl:L[j]? =some l): ∀p∈l,p.1<1000/\p.2<1000:=fun p hp=>by
 have hj:j<(aq y).length:=by rw[<-g.lk.1];exact (List.getElem?_eq_some_iff.mp hl).1
 have kW:=(g.lk.2 j l _ hl (List.getElem?_eq_getElem hj)).mem_iff.mp hp
 obtain ⟨c,i⟩:=p
 obtain ⟨h1,h2,_⟩:=fb.mp kW
 have:=g.wk.kX
 have:=(g.wk.all _ (getD_mem h1)).2
 exact ⟨by show c<1000;omega,by show i<1000;omega⟩
theorem Al.at {R:Nat->Nat×Nat->Prop}: ∀{o:List Nat} {l:List (Nat×Nat)} {k n:Nat} {p:Nat×Nat},Al R o l->o[k]? =some n->l[k]? =some p->R n p
 | _,_,0,_,_, .cons a _,h1,h2=>by cases h1;cases h2;exact a
 | _,_,_+1,_,_, .cons _ b,h1,h2=>b.at (by simpa using h1) (by simpa using h2)
 | _,_,_,_,_, .nil,h1,_=>by simp at h1
theorem gb (ks:List Nat):(fH ks).length=ks.length:=by unfold fH;rw[List.length_map]
noncomputable def uY (wl ol:Addr) (Ws:List Wc) (Os:List Oc):List Addr:=wl::ol::(Ws.map Wc.a++Os.map Oc.a)
def Fr (A:List Addr) (H H':Hp):Prop:= ∀x u,H x=some u->x∉A->H' x=some u
theorem Fr.of {A:List Addr} {H H':Hp} (s:ai H H'):Fr A H H':=fun x u e _=>s x u e
theorem Fr.after {A:List Addr} {H H1 H2:Hp} (h:Fr A H H1) (s:ai H1 H2):Fr A H H2:=fun x u e z=>s _ _ (h x u e z)
theorem Fr.upd {A:List Addr} {H H1:Hp} {a:Addr} {o:HO} (h:Fr A H H1) (ha:a∈A):Fr A H (upd H1 a o):=fun x u e z=>by rw[aj fun y=>z (by rw[y];exact ha)];exact h x u e z
section
variable {H H':Hp} {d wl ol:Addr} {Ws:List Wc} {Os:List Oc} {m:Nat}
theorem dH.same (h:dH H d wl ol Ws Os m) (s:ai H H'):dH H' d wl ol Ws Os m:=⟨s _ _ h.dk,s _ _ h.wd,s _ _ h.od,fun c hc=>s _ _ (h.wc c hc),fun c hc l hl=>s _ _ (h.lc c hc l hl),fun o ho=>s _ _ (h.oc o ho),h.nd,h.nl⟩
theorem dH.live (h:dH H d wl ol Ws Os m) {a:Addr} (ha:a∈uY wl ol Ws Os): ∃xs,H a=some (.lst xs):=by
 unfold uY at ha
 rcases List.mem_cons.mp ha with z | z
 ·exact ⟨_,by rw[z];exact h.wd⟩
 rcases List.mem_cons.mp z with z | z
 ·exact ⟨_,by rw[z];exact h.od⟩
 rcases List.mem_append.mp z with z | z
 ·obtain ⟨c,hc,e⟩:=List.mem_map.mp z
  exact ⟨_,by rw[<-e];exact h.wc c hc⟩
 ·obtain ⟨c,hc,e⟩:=List.mem_map.mp z
  exact ⟨_,by rw[<-e];exact h.oc c hc⟩
theorem dH.fresh (h:dH H d wl ol Ws Os m) {a:Addr} (ha:H a=none):a∉uY wl ol Ws Os:=fun z=>by obtain ⟨xs,e⟩:=h.live z;rw[ha]at e;cases e
theorem sJ {α:Type} {f:α->Addr}: ∀{l:List α} {i j:Nat} {a b:α},(l.map f).Nodup->l[i]? =some a->l[j]? =some b->f a=f b->i=j:=by
 intro l i j a b nd h1 h2 e
 have e1:(l.map f)[i]? =some (f a):=by rw[List.getElem?_map,h1];rfl
 have e2:(l.map f)[j]? =some (f b):=by rw[List.getElem?_map,h2];rfl
 obtain ⟨b1,b2⟩:=List.getElem?_eq_some_iff.mp e1
 obtain ⟨c1,c2⟩:=List.getElem?_eq_some_iff.mp e2
 exact (List.getElem_inj nd).mp (b2.trans (e.trans c2.symm))
theorem dI {α:Type} {l:List α} {j:Nat} {x a b:α} (h:x∈l.set j a) (hj:l[j]? =some b):x=a\/ ∃i,i≠j/\l[i]? =some x:=by
 obtain ⟨i,hi⟩:=List.mem_iff_getElem?.mp h
 rcases qt hi with ⟨_,e⟩ | ⟨e1,e2⟩
 ·exact .inl e
 ·exact .inr ⟨i,e1,e2⟩
theorem dH.C6 (h:dH H d wl ol Ws Os m) {j:Nat} {o:Oc} {ns:List Nat} (ho:Os[j]? =some o):dH (upd H o.a (.lst (fH ns))) d wl ol Ws (Os.set j ⟨o.a,ns⟩) m:=by
 have dU:=List.mem_of_getElem? ho
 have em:(Os.set j ⟨o.a,ns⟩).map Oc.a=Os.map Oc.a:=by rw[List.map_set];exact set_same (by rw[List.getElem?_map,ho];rfl)
 have xY:=h.nd
 obtain ⟨n1,n2⟩:=List.nodup_cons.mp h.nd
 obtain ⟨n3,n4⟩:=List.nodup_cons.mp n2
 obtain ⟨n5,n6,n7⟩:=List.nodup_append.mp n4
 have mo:o.a∈Os.map Oc.a:=List.mem_map.mpr ⟨o,dU,rfl⟩
 have ne1:wl≠o.a:=fun z=>n1 (by rw[z];exact List.mem_cons_of_mem _ (List.mem_append_right _ mo))
 have ne2:ol≠o.a:=fun z=>n3 (by rw[z];exact List.mem_append_right _ mo)
 have ne3: ∀c∈Ws,c.a≠o.a:=fun c hc=>n7 c.a (List.mem_map.mpr ⟨c,hc,rfl⟩) o.a mo
 have L4:d≠o.a:=fun z=>by have:=h.oc o dU;rw[<-z,h.dk]at this;cases this
 refine ⟨by rw[aj L4];exact h.dk,by rw[aj ne1];exact h.wd,?_,fun c hc=>by rw[aj (ne3 c hc)];exact h.wc c hc,fun c hc l hl=>?_,fun x hx=>?_,by rw[em];exact h.nd,fun c hc l hl=>by rw[em];exact h.nl c hc l hl⟩
 ·rw[aj ne2,h.od]
  unfold gC
  rw[show (Os.set j ⟨o.a,ns⟩).map (fun o=>V.ref o.a)=Os.map fun o=>V.ref o.a from by rw[List.map_set];exact set_same (by rw[List.getElem?_map,ho];rfl)]
 ·rw[aj fun z=>h.nl c hc l hl (by rw[z];exact List.mem_cons_of_mem _ (List.mem_cons_of_mem _ (List.mem_append_right _ mo)))];exact h.lc c hc l hl
 ·rcases dI hx ho with e | ⟨i,e1,e2⟩
  ·rw[e];exact ae
  ·rw[aj fun z=>e1 (sJ n6 e2 ho z)];exact h.oc x (List.mem_of_getElem? e2)
theorem dH.L5 (h:dH H d wl ol Ws Os m) {j:Nat} {c:Wc} {ls:List Lc} (hc:Ws[j]? =some c) (hl: ∀l∈ls,H l.a=some (.lst [.str (S [l.x]), .int l.n])/\l.a∉uY wl ol Ws Os):dH (upd H c.a (.lst (cT ls))) d wl ol (Ws.set j ⟨c.a,ls⟩) Os m:=by
 have jk:=List.mem_of_getElem? hc
 have em:(Ws.set j ⟨c.a,ls⟩).map Wc.a=Ws.map Wc.a:=by rw[List.map_set];exact set_same (by rw[List.getElem?_map,hc];rfl)
 obtain ⟨n1,n2⟩:=List.nodup_cons.mp h.nd
 obtain ⟨n3,n4⟩:=List.nodup_cons.mp n2
 obtain ⟨n5,n6,n7⟩:=List.nodup_append.mp n4
 have mc:c.a∈Ws.map Wc.a:=List.mem_map.mpr ⟨c,jk,rfl⟩
 have mb:c.a∈uY wl ol Ws Os:=List.mem_cons_of_mem _ (List.mem_cons_of_mem _ (List.mem_append_left _ mc))
 have ne1:wl≠c.a:=fun z=>n1 (by rw[z];exact List.mem_cons_of_mem _ (List.mem_append_left _ mc))
 have ne2:ol≠c.a:=fun z=>n3 (by rw[z];exact List.mem_append_left _ mc)
 have ne3: ∀o∈Os,o.a≠c.a:=fun o ho z=>n7 c.a mc o.a (List.mem_map.mpr ⟨o,ho,rfl⟩) z.symm
 have L4:d≠c.a:=fun z=>by have:=h.wc c jk;rw[<-z,h.dk]at this;cases this
 refine ⟨by rw[aj L4];exact h.dk,?_,by rw[aj ne2];exact h.od,fun x hx=>?_,fun x hx l jI=>?_,fun o ho=>by rw[aj (ne3 o ho)];exact h.oc o ho,by rw[em];exact h.nd,fun x hx l jI=>?_⟩
 ·rw[aj ne1,h.wd]
  unfold iC
  rw[show (Ws.set j ⟨c.a,ls⟩).map (fun c=>V.ref c.a)=Ws.map fun c=>V.ref c.a from by rw[List.map_set];exact set_same (by rw[List.getElem?_map,hc];rfl)]
 ·rcases dI hx hc with e | ⟨i,e1,e2⟩
  ·rw[e];exact ae
  ·rw[aj fun z=>e1 (sJ n5 e2 hc z)];exact h.wc x (List.mem_of_getElem? e2)
 ·rcases dI hx hc with e | ⟨i,e1,e2⟩
  ·rw[e]at jI
   obtain ⟨g1,g2⟩:=hl l jI
   rw[aj fun z=>g2 (by rw[z];exact mb)];exact g1
  ·have L6:=List.mem_of_getElem? e2
   rw[aj fun z=>h.nl x L6 l jI (by rw[z];exact mb)];exact h.lc x L6 l jI
 ·rw[em]
  rcases dI hx hc with e | ⟨i,e1,e2⟩
  ·rw[e]at jI;exact (hl l jI).2
  ·exact h.nl x (List.mem_of_getElem? e2) l jI
theorem dH.QL (h:dH H d wl ol Ws Os m) {j:Nat} {c:Wc} {ls:List Lc} {p:Addr} (hc:Ws[j]? =some c) (hp:H p=none) (hl: ∀l∈ls,H l.a=some (.lst [.str (S [l.x]), .int l.n])/\l.a∉uY wl ol Ws Os):
  dH (upd (upd H p (.lst (cT ls))) wl (.lst (iC (Ws.set j ⟨p,ls⟩)))) d wl ol (Ws.set j ⟨p,ls⟩) Os m:=by
 have HZ:=h.fresh hp
 have h1:=h.same (ai.upd (o:=HO.lst (cT ls)) hp)
 have sp:=ai.upd (o:=HO.lst (cT ls)) hp
 have gS:upd H p (HO.lst (cT ls)) p=some (HO.lst (cT ls)):=ae
 have jk:=List.mem_of_getElem? hc
 obtain ⟨n1,n2⟩:=List.nodup_cons.mp h.nd
 obtain ⟨n3,n4⟩:=List.nodup_cons.mp n2
 obtain ⟨n5,n6,n7⟩:=List.nodup_append.mp n4
 have mW: ∀x∈Ws,x.a∈uY wl ol Ws Os:=fun x hx=>List.mem_cons_of_mem _ (List.mem_cons_of_mem _ (List.mem_append_left _ (List.mem_map.mpr ⟨x,hx,rfl⟩)))
 have mO: ∀x∈Os,x.a∈uY wl ol Ws Os:=fun x hx=>List.mem_cons_of_mem _ (List.mem_cons_of_mem _ (List.mem_append_right _ (List.mem_map.mpr ⟨x,hx,rfl⟩)))
 have nw: ∀x∈Ws,x.a≠wl:=fun x hx z=>n1 (by rw[<-z];exact List.mem_cons_of_mem _ (List.mem_append_left _ (List.mem_map.mpr ⟨x,hx,rfl⟩)))
 have no: ∀x∈Os,x.a≠wl:=fun x hx z=>n1 (by rw[<-z];exact List.mem_cons_of_mem _ (List.mem_append_right _ (List.mem_map.mpr ⟨x,hx,rfl⟩)))
 have VG:ol≠wl:=fun z=>n1 (by rw[<-z];exact List.mem_cons_self)
 have Oh:p≠wl:=fun z=>HZ (by rw[z];exact List.mem_cons_self)
 have L4:d≠wl:=fun z=>by have:=h.wd;rw[<-z,h.dk]at this;cases this
 have sub: ∀{a:Addr},a∈wl::ol::((Ws.set j ⟨p,ls⟩).map Wc.a++Os.map Oc.a)->a=p\/a∈uY wl ol Ws Os:=fun {a} ha=>by
  rcases List.mem_cons.mp ha with z | z
  ·exact .inr (by rw[z];exact List.mem_cons_self)
  rcases List.mem_cons.mp z with z | z
  ·exact .inr (by rw[z];exact List.mem_cons_of_mem _ List.mem_cons_self)
  rcases List.mem_append.mp z with z | z
  ·obtain ⟨x,hx,e⟩:=List.mem_map.mp z
   rcases dI hx hc with g | ⟨i,g1,g2⟩
   ·exact .inl (by rw[<-e,g])
   ·exact .inr (by rw[<-e];exact mW x (List.mem_of_getElem? g2))
  ·obtain ⟨x,hx,e⟩:=List.mem_map.mp z
   exact .inr (by rw[<-e];exact mO x hx)
 refine ⟨by rw[aj L4];exact h1.dk,ae,by rw[aj VG];exact h1.od,fun x hx=>?_,fun x hx l jI=>?_,fun o ho=>by rw[aj (no o ho)];exact h1.oc o ho,?_,fun x hx l jI=>?_⟩
 ·rcases dI hx hc with e | ⟨i,e1,e2⟩
  ·rw[e,aj Oh];exact gS
  ·rw[aj (nw x (List.mem_of_getElem? e2))];exact h1.wc x (List.mem_of_getElem? e2)
 ·rcases dI hx hc with e | ⟨i,e1,e2⟩
  ·rw[e]at jI
   obtain ⟨g1,g2⟩:=hl l jI
   rw[aj fun z=>g2 (by rw[z];exact List.mem_cons_self)];exact sp _ _ g1
  ·have L6:=List.mem_of_getElem? e2
   rw[aj fun z=>h.nl x L6 l jI (by rw[z];exact List.mem_cons_self)];exact h1.lc x L6 l jI
 ·have Yx:p∉Ws.map Wc.a:=fun z=>HZ (List.mem_cons_of_mem _ (List.mem_cons_of_mem _ (List.mem_append_left _ z)))
  have es:(Ws.set j ⟨p,ls⟩).map Wc.a=(Ws.map Wc.a).set j p:=by rw[List.map_set]
  have ms: ∀{a:Addr},a∈(Ws.map Wc.a).set j p->a∈Ws.map Wc.a\/a=p:=fun ha=>List.mem_or_eq_of_mem_set ha
  rw[es]
  refine List.nodup_cons.mpr ⟨fun z=>?_,List.nodup_cons.mpr ⟨fun z=>?_,List.nodup_append.mpr ⟨oU n5 Yx,n6,fun a ha b hb z=>?_⟩⟩⟩
  ·rcases List.mem_cons.mp z with z | z
   ·exact VG z.symm
   rcases List.mem_append.mp z with z | z
   ·rcases ms z with z | z
    ·exact n1 (List.mem_cons_of_mem _ (List.mem_append_left _ z))
    ·exact Oh z.symm
   ·exact n1 (List.mem_cons_of_mem _ (List.mem_append_right _ z))
  ·rcases List.mem_append.mp z with z | z
   ·rcases ms z with z | z
    ·exact n3 (List.mem_append_left _ z)
    ·exact HZ (by rw[<-z];exact List.mem_cons_of_mem _ List.mem_cons_self)
   ·exact n3 (List.mem_append_right _ z)
  ·rcases ms ha with y | y
   ·exact n7 a y b hb z
   ·exact HZ (by rw[<-y,z];exact List.mem_cons_of_mem _ (List.mem_cons_of_mem _ (List.mem_append_right _ hb)))
 ·intro z
  rcases sub z with e | e
  ·rcases dI hx hc with g | ⟨i,g1,g2⟩
   ·rw[g]at jI
    have:=(hl l jI).1
    rw[e,hp]at this;cases this
   ·have:=h.lc x (List.mem_of_getElem? g2) l jI
    rw[e,hp]at this;cases this
  ·rcases dI hx hc with g | ⟨i,g1,g2⟩
   ·rw[g]at jI;exact (hl l jI).2 e
   ·exact h.nl x (List.mem_of_getElem? g2) l jI e
theorem dH.setM (h:dH H d wl ol Ws Os m) (m':Nat):dH (upd H d (.dK (sj wl ol m'))) d wl ol Ws Os m':=by
 have ne: ∀{a:Addr} {xs:List V},H a=some (.lst xs)->a≠d:=fun e z=>by rw[z,h.dk]at e;cases e
 exact ⟨ae,by rw[aj (ne h.wd)];exact h.wd,by rw[aj (ne h.od)];exact h.od,fun c hc=>by rw[aj (ne (h.wc c hc))];exact h.wc c hc,fun c hc l hl=>by rw[aj (ne (h.lc c hc l hl))];exact h.lc c hc l hl,fun o ho=>by rw[aj (ne (h.oc o ho))];exact h.oc o ho,h.nd,h.nl⟩
end
theorem DI (wl ol:Addr) (m m':Nat):putK (sj wl ol m) (kS gq) (V.int (m':Nat))=sj wl ol m':=by
 have n1:kS cX≠kS gq:=fun z=>absurd (eB z) (by decide)
 have n2:kS cI≠kS gq:=fun z=>absurd (eB z) (by decide)
 unfold putK
 rw[fF,if_pos (by rw[sy];rfl)]
 unfold sj
 simp only[List.map_cons,List.map_nil,if_neg n1,if_neg n2,if_true]
theorem dJ (l:List Nat):(bO l).all g_=true:=by unfold bO;rw[List.all_map,List.all_eq_true];intro x _;rfl
theorem Bc (l:List Nat):(fH l).all g_=true:=by unfold fH;rw[List.all_map,List.all_eq_true];intro x _;rfl
theorem DJ (e:Nat) (l:List Nat):qV (.int (e:Nat)) (fH l)=decide (e∈l):=by
 have key: ∀c:Nat,y9 (.int (c:Nat)) (.int (e:Nat))=decide (c=e):=fun c=>by
  show decide ((c:Int)=(e:Int))=_
  by_cases z:c=e
  ·rw[decide_eq_true z,decide_eq_true (by rw[z])]
  ·rw[decide_eq_false z,decide_eq_false (by omega)]
 unfold qV fH
 rw[List.any_map]
 induction l with
 | nil=>rfl
 | cons c l ih=>
  rw[List.any_cons,ih]
  show (y9 (.int (c:Nat)) (.int (e:Nat))||_)=_
  rw[key]
  by_cases z:c=e
  ·rw[decide_eq_true z,Bool.true_or,decide_eq_true (show e∈c::l by rw[z];exact List.mem_cons_self)]
  ·rw[decide_eq_false z,Bool.false_or]
   by_cases y:e∈l
   ·rw[decide_eq_true y,decide_eq_true (List.mem_cons_of_mem _ y)]
   ·rw[decide_eq_false y,decide_eq_false fun g=>(List.mem_cons.mp g).elim (fun g=>z g.symm) y]
theorem iQ {α β:Type} (f:α->β): ∀(l:List α) (i:Nat),(l.map f).eraseIdx i=(l.eraseIdx i).map f
 | [],_=>rfl
 | _::_,0=>rfl
 | x::l,i+1=>by show f x::(l.map f).eraseIdx i=f x::(l.eraseIdx i).map f;rw[iQ f l i]
theorem Bd (k:Nat) (o:List Nat) (h:k+1<o.length):((fH o).eraseIdx (k+1)).take k++V.int (o[k+1]:Nat)::((fH o).eraseIdx (k+1)).drop k=fH (iB k o):=by
 unfold iB fH
 have e:o.getD (k+1) 0=o[k+1]:=aK (List.getElem?_eq_getElem h)
 rw[e,List.map_append,List.map_cons,List.map_take,List.map_drop,iQ]
theorem Be (ls:List Lc) (k:Nat):(cT ls).drop k=cT (ls.drop k):=by unfold cT;rw[List.map_drop]
theorem Bf (ls:List Lc) (k:Nat):(cT ls).take k=cT (ls.take k):=by unfold cT;rw[List.map_take]
theorem DK (a b:List Lc):cT a++cT b=cT (a++b):=by unfold cT;rw[List.map_append]
theorem Bg (xs:List V):xg xs (some 1) none=xs.drop 1:=gp xs 1
theorem yf (xs:List V):xg xs none (some 1)=xs.take 1:=uL xs 1
theorem Bh: ∀{ns:List Nat} {n:Nat},n∈ns->ns.Nodup-> ∃j,ns[j]? =some n/\(∀m e,m<j->ns[m]? =some e->e≠n)/\ns.eraseIdx j=ns.filter fun x=>decide (x≠n)
 | a::ns,n,h,nd=>by
  obtain ⟨h1,h2⟩:=List.nodup_cons.mp nd
  by_cases z:a=n
  ·refine ⟨0,by rw[z];rfl,fun m e hm=>by omega,?_⟩
   rw[List.filter_cons_of_neg (by rw[z];simp)]
   show ns=_
   refine (List.filter_eq_self.mpr fun x hx=>?_).symm
   simp only[ne_eq,decide_not,Bool.not_eq_true',decide_eq_false_iff_not]
   exact fun g=>h1 (by rw[z, <-g];exact hx)
  ·obtain ⟨j,g1,g2,g3⟩:=Bh ((List.mem_cons.mp h).resolve_left fun g=>z g.symm) h2
   refine ⟨j+1,by simpa using g1,fun m e hm he=>?_,?_⟩
   ·cases m with
    | zero=>
     have:a=e:=by simpa using he
     rw[<-this];exact z
    | succ m=>exact g2 m e (by omega) (by simpa using he)
   ·rw[List.filter_cons_of_pos (by simpa using z), <-g3];rfl
theorem H_ {ns:List Nat} {i:Nat} {e:PyData} (h:(ids ns)[i]? =some e): ∃n,ns[i]? =some n/\e=PyData.int n:=by
 unfold ids at h
 rw[List.getElem?_map]at h
 cases g:ns[i]? with
 | none=>rw[g]at h;cases h
 | some n=>rw[g]at h;cases h;exact ⟨n,rfl,rfl⟩
theorem yg {ns:List Nat} {n:Nat} (h:n∉ns):(ns.filter fun x=>decide (x≠n))=ns:=List.filter_eq_self.mpr fun x hx=>by
 simp only[ne_eq,decide_not,Bool.not_eq_true',decide_eq_false_iff_not]
 exact fun g=>h (by rw[<-g];exact hx)
noncomputable def oF (P:Nat->Bool) (Os:List Oc):List Oc:=Os.map fun o=>⟨o.a,o.ns.filter P⟩
theorem Fc {P:Nat->Bool} {Os:List Oc} {j:Nat} {o:Oc} (h:Os[j]? =some o):(oF P Os)[j]? =some ⟨o.a,o.ns.filter P⟩:=by unfold oF;rw[List.getElem?_map,h];rfl
theorem qw (P:Nat->Bool) (Os:List Oc):(oF P Os).length=Os.length:=by unfold oF;rw[List.length_map]
theorem L7 (P:Nat->Bool) (Os:List Oc):(oF P Os).map Oc.a=Os.map Oc.a:=by unfold oF;rw[List.map_map];rfl
theorem Ia (P:Nat->Bool) (Os:List Oc):gC (oF P Os)=gC Os:=by unfold oF gC;rw[List.map_map];rfl
theorem DL (Os:List Oc):oF (fun _=>true) Os=Os:=by
 unfold oF
 have: ∀o:Oc,(⟨o.a,o.ns.filter fun _=>true⟩:Oc)=o:=fun o=>by rw[List.filter_eq_self.mpr fun _ _=>rfl]
 rw[List.map_congr_left fun o _=>this o,List.map_id']
theorem nF {α:Type} {a b:List α} {j:Nat} {x:α} (hb:j<b.length) (ha:a[j]? =some x):(a.take j++b.drop j).set j x=a.take (j+1)++b.drop (j+1):=by
 have hj:=(List.getElem?_eq_some_iff.mp ha).1
 have hl:(a.take j).length=j:=by rw[List.length_take];omega
 rw[List.set_append_right _ _ (by omega),hl,Nat.sub_self,List.drop_eq_getElem_cons hb,List.set_cons_zero,List.take_succ,ha]
 simp
theorem Ib {α:Type} {a b:List α} {j:Nat} {x:α} (ha:j<=a.length) (hb:b[j]? =some x):(a.take j++b.drop j)[j]? =some x:=by
 have hl:(a.take j).length=j:=by rw[List.length_take];omega
 rw[List.getElem?_append_right (by omega),hl,Nat.sub_self,List.getElem?_drop,Nat.add_zero]
 exact hb
theorem L8 {P P':Nat->Bool} (Os:List Oc) (j:Nat):gC ((oF P Os).take j++(oF P' Os).drop j)=gC Os:=by
 have e: ∀a b:List Oc,gC (a++b)=gC a++gC b:=fun a b=>by unfold gC;rw[List.map_append]
 have e1: ∀a:List Oc,gC (a.take j)=(gC a).take j:=fun a=>by unfold gC;rw[List.map_take]
 have e2: ∀a:List Oc,gC (a.drop j)=(gC a).drop j:=fun a=>by unfold gC;rw[List.map_drop]
 rw[e,e1,e2,Ia,Ia,List.take_append_drop]
noncomputable def cb (ls:List Lc) (k i n:Nat):Bool:=decide (n∉((ls.drop k).take i).map Lc.n)
theorem mX (ls:List Lc) (k:Nat):cb ls k 0=fun _=>true:=by funext n;unfold cb;simp
theorem jz {ls:List Lc} {k i:Nat} {l:Lc} (h:ls[k+i]? =some l) (n:Nat):cb ls k (i+1) n=(cb ls k i n&&decide (n≠l.n)):=by
 have e:(ls.drop k).take (i+1)=(ls.drop k).take i++[l]:=by rw[List.take_succ,List.getElem?_drop,h];rfl
 unfold cb
 rw[e,List.map_append]
 by_cases z:n∈((ls.drop k).take i).map Lc.n
 ·simp[z]
 ·by_cases y:n=l.n
  ·simp[y]
  ·simp[z,y]
theorem set_set {α:Type} (l:List α) (i:Nat) (a b:α):(l.set i a).set i b=l.set i b:=by
 induction l generalizing i with
 | nil=>rfl
 | cons x l ih=>cases i with
  | zero=>rfl
  | succ i=>show x::(l.set i a).set i b=x::l.set i b;rw[ih]
theorem DM {ls:List Lc} {k i:Nat} {l:Lc} (h:ls[k+i]? =some l):(ls.take k++ls.drop (k+i))[k]? =some l/\(ls.take k++ls.drop (k+i)).eraseIdx k=ls.take k++ls.drop (k+(i+1)):=by
 have hk:=(List.getElem?_eq_some_iff.mp h).1
 have hl:(ls.take k).length=k:=by rw[List.length_take];omega
 constructor
 ·rw[List.getElem?_append_right (by omega),hl,Nat.sub_self,List.getElem?_drop,Nat.add_zero];exact h
 ·rw[List.eraseIdx_append_of_length_le (by omega),hl,Nat.sub_self,List.drop_eq_getElem_cons hk]
  rfl
theorem qx (n:Nat):PyData.eqv (.int (n:Nat)) (.int (n:Nat))=true:=by
 show decide ((n:Int)=(n:Int))=true
 exact decide_eq_true rfl
theorem uZ {a b:Nat} (h:a≠b):PyData.eqv (.int (a:Nat)) (.int (b:Nat))=false:=by
 show decide ((a:Int)=(b:Int))=false
 exact decide_eq_false (by omega)
theorem wA {α:Type} (A N B:List α) (x:α) {p:Nat} (h:A.length+N.length=p):(A++N++B).take p++x::(A++N++B).drop p=A++(N++[x])++B:=by
 have hl:(A++N).length=p:=by rw[List.length_append];exact h
 rw[List.take_append_of_le_length (by omega),List.take_of_length_le (by omega),List.drop_append_of_le_length (by omega),List.drop_of_length_le (by omega)]
 simp
theorem DN (A N B:List Lc) (l:Lc) {p:Nat} (h:A.length+N.length=p):(cT (A++N++B)).take p++V.ref l.a::(cT (A++N++B)).drop p=cT (A++(N++[l])++B):=by
 rw[<-wA A N B l h]
 unfold cT
 generalize A++N++B=Z
 rw[List.map_append,List.map_cons,List.map_take,List.map_drop]
theorem DO (A N B:List Nat) (l:Nat) {p:Nat} (h:A.length+N.length=p):(fH (A++N++B)).take p++V.int (l:Nat)::(fH (A++N++B)).drop p=fH (A++(N++[l])++B):=by
 rw[<-wA A N B l h]
 unfold fH
 generalize A++N++B=Z
 rw[List.map_append,List.map_cons,List.map_take,List.map_drop]
theorem aG {t u:TS} {D:Ends} {σ:L2.St} {H:Hp} (h: ∀N:L2.St->Hp->Prop,(∀σ H,u D σ H->N σ H)->t { D with nx:=N } σ H):i9 t u D σ H:=h (u D) fun _ _ z=>z
noncomputable def zh (ws:List (List Nat)) (L:cy):PyData:= .tuple [.tuple (HK ws), .tuple (L.map fun l=> .tuple (l.map xU))]
theorem wB (os:List Od):os.map QE=(os.map bw).map fun l=>PyData.tuple (l.map xU):=by rw[List.map_map];rfl
theorem L9 {K:PySem.W.Frag} {H:Hp} {dr:Addr} {ws:List (List Nat)} {os:List Od} (h:e_ H dr ws os):lF K H (.ref dr) (zh ws (os.map bw)):=by
 obtain ⟨⟨wt,ot,h1,h2,h3⟩,hO⟩:=h
 unfold zh
 rw[<-wB]
 exact .tup (aN.of h1) (.cons (.tup (aN.of h2) (rU _)) (.cons (.tup (aN.of h3) (rY hO)) .nil))
theorem wC: ∀L:cy,PyData.hasDictAll (L.map fun l=>PyData.tuple (l.map xU))=false
 | []=>rfl
 | l::L=>by show (PyData.hasDictAll (l.map xU)||PyData.hasDictAll (L.map _))=false;rw[rX l,wC L];rfl
theorem sM: ∀ws:List (List Nat),PyData.hasDictAll (HK ws)=false
 | []=>rfl
 | w::ws=>by show (PyData.hasDict (.str _)||PyData.hasDictAll (HK ws))=false;rw[sM ws];rfl
theorem wD (ws:List (List Nat)) (L:cy):(zh ws L).hasDict=false:=by
 show (PyData.hasDictAll (HK ws)||(PyData.hasDictAll (L.map _)||false))=false
 rw[sM,wC];rfl
theorem o8 {y:List Nat} {e:eQ}: ∀{es:List eQ} {ws:List (List Nat)} {L:cy},Path y ws L es->DC y (aq y) (mL y ws L es).1 (mL y ws L es).2 e->Path y ws L (es++[e])
 | [],_,_,_,h=>⟨h,trivial⟩
 | _::_,_,_,⟨h1,h2⟩,h=>⟨h1,o8 h2 h⟩
theorem sN {y:List Nat} {e:eQ}: ∀{es:List eQ} {ws:List (List Nat)} {L:cy},mL y ws L (es++[e])=(dW (mL y ws L es).1 e,dO (aq y) (mL y ws L es).1 (mL y ws L es).2 e)
 | [],_,_=>rfl
 | _::es,_,_=>sN (es:=es)
theorem Bi (ds:List Dd) (x:Dd):AX ds++[V.ref x.a]=AX (ds++[x]):=by unfold AX;rw[List.map_append];rfl
theorem mY {x:List Nat}: ∀{bs:List Nat} {os:List Od},(∀b∈bs,x≠[b])->cf (cW bs os) (kS x)=none
 | [],_,_=>rfl
 | _::_,[],_=>rfl
 | b::bs,o::os,h=>by
  have gR:kS [b]≠kS x:=fun z=>h b List.mem_cons_self (eB z).symm
  show cf ((kS [b],V.ref o.o)::cW bs os) (kS x)=none
  rw[bu gR]
  exact mY fun c hc=>h c (List.mem_cons_of_mem _ hc)
def mZ (K:PySem.W.Frag):Sp:=fun vs H Q E=>lh K vs H Q E\/ ∃(d:Addr) (bs:List Nat) (os:List Od) (x:List Nat) (n:Int),vs=[.ref d, .str (S x), .int n]/\bP H d bs os/\bs.Nodup/\(∀(j b:Nat) (o:Od),x=[b]->bs[j]? =some b->os[j]? =some o-> ¬(0<=n/\n+1<(o.ps.length:Int)))/\Q (.bl false) H
theorem sO {K:PySem.W.Frag} {vs:List V} {H:Hp} {Q:VK} {E:XK} (h:mZ K vs H Q E):vs.length=3:=by
 rcases h with h | h
 ·exact qm h
 ·obtain ⟨_,_,_,_,_,rfl,_⟩:=h;rfl
def o9 (K:PySem.W.Frag):Sp:=fun vs H Q E=>mG K vs H Q E\/ ∃(d wl:Addr) (bs:List Nat) (os:List Od) (ws:List (List Nat)) (c:Nat) (k:Int) (w:List Nat),vs=[.ref wl, .ref d, .int c, .int k]/\iw H d wl bs os ws/\ws[c]? =some w/\(∀(j x:Nat),k=(j:Int)->w[j]? =some x->w[j+1]?≠ some (bL x))/\Q (.bl false) H
theorem u6 {K:PySem.W.Frag} {vs:List V} {H:Hp} {Q:VK} {E:XK} (h:o9 K vs H Q E):vs.length=4:=by
 rcases h with h | h
 ·exact r9 h
 ·obtain ⟨_,_,_,_,_,_,_,_,rfl,_⟩:=h;rfl
def sQ (K:PySem.W.Frag):Sp:=fun vs H Q E=>oX K vs H Q E\/ ∃(d wl:Addr) (bs:List Nat) (os:List Od) (ws:List (List Nat)) (c j:Nat) (k n:Int) (w:List Nat) (x:Nat) (o:Od),vs=[.ref wl, .ref d, .int c, .int k, .str (S [x]), .int n]/\iw H d wl bs os ws/\ws[c]? =some w/\Lt x/\bs[j]? =some (PyProof.Rows.lo1 x)/\os[j]? =some o/\ ¬(0<=k/\k<=(w.length:Int)/\0<=n/\n<=(o.ps.length:Int))/\Q (.bl false) H
theorem yh {K:PySem.W.Frag} {vs:List V} {H:Hp} {Q:VK} {E:XK} (h:sQ K vs H Q E):vs.length=6:=by
 rcases h with h | h
 ·exact uT h
 ·obtain ⟨_,_,_,_,_,_,_,_,_,_,_,_,rfl,_⟩:=h;rfl
inductive RD where
 | swap (x:List Nat) (n:Int) | out (c k:Int) | turn (c:Int) | ins (c k:Int) (x:List Nat) (n:Int)
def wF (H:Hp) (a:Addr):RD->Prop
 | .swap x n=>H a=some (.tup [.str (S iy), .str (S x), .int n])
 | .out c k=>H a=some (.tup [.str (S mI), .int c, .int k])
 | .turn c=>H a=some (.tup [.str (S gN), .int c])
 | .ins c k x n=>H a=some (.tup [.str (S AR), .int c, .int k, .str (S x), .int n])
theorem wF.ts {H H':Hp} {a:Addr} {e:RD} (h:wF H a e) (s:aC H H'):wF H' a e:=by cases e<;>exact s _ _ h
def Ref (y:List Nat) (ws:List (List Nat)) (L:cy):RD->Prop
 | .swap x n=> ∀b,x=[b]->b∈aq y-> ¬(0<=n/\n+1<((L.getD ((aq y).idxOf b) []).length:Int))
 | .out c k=> ∀i j:Nat,c=(i:Int)->k=(j:Int)->i<ws.length-> ∀x,(ws.getD i [])[j]? =some x->(ws.getD i [])[j+1]?≠ some (bL x)
 | .turn c=> ¬(0<=c/\c<(ws.length:Int))
 | .ins c k x n=> ∀(i l:Nat),c=(i:Int)->i<ws.length->x=[l]->l∈y-> ¬(0<=k/\k<=((ws.getD i []).length:Int)/\0<=n/\n<=((L.getD ((aq y).idxOf (PyProof.Rows.lo1 l)) []).length:Int))
noncomputable def sR:eQ->RD
 | .swap b n=> .swap [b] n
 | .out c k=> .out c k
 | .turn c=> .turn c
 | .ins c k x n=> .ins c k [x] n
theorem wG {H:Hp} {a:Addr} {e:eQ} (h:wF H a (sR e)):fI H a e:=by cases e<;>exact h
theorem Ic {y:List Nat} {ws:List (List Nat)} {L:cy} (hs: ∀w∈ws,w.length<=38) (r:RD):Ref y ws L r\/ ∃e,r=sR e/\DC y (aq y) ws L e:=by
 by_cases h:Ref y ws L r
 ·exact .inl h
 ·refine .inr ?_
  cases r with
  | swap x n=>
   simp only[Ref,Classical.not_forall,Classical.not_not]at h
   obtain ⟨b,rfl,hb,h0,h1⟩:=h
   obtain ⟨m,rfl⟩: ∃m:Nat,n=(m:Int):=⟨n.toNat,by omega⟩
   exact ⟨.swap b m,rfl,hb,by omega⟩
  | out c k=>
   simp only[Ref,Classical.not_forall,Classical.not_not,ne_eq]at h
   obtain ⟨i,j,rfl,rfl,hi,x,h0,h1⟩:=h
   exact ⟨.out i j,rfl,hi,x,h0,h1⟩
  | turn c=>
   simp only[Ref,Classical.not_not]at h
   obtain ⟨m,rfl⟩: ∃m:Nat,c=(m:Int):=⟨c.toNat,by omega⟩
   exact ⟨.turn m,rfl,by show m<ws.length;omega⟩
  | ins c k x n=>
   simp only[Ref,Classical.not_forall,Classical.not_not]at h
   obtain ⟨i,l,rfl,hi,rfl,hl,h0,h1,h2,h3⟩:=h
   obtain ⟨k',rfl⟩: ∃m:Nat,k=(m:Int):=⟨k.toNat,by omega⟩
   obtain ⟨n',rfl⟩: ∃m:Nat,n=(m:Int):=⟨n.toNat,by omega⟩
   have e:ws.getD i []=ws[i]:=by rw[List.getD_eq_getElem?_getD,List.getElem?_eq_getElem hi];rfl
   exact ⟨.ins i k' l n',rfl,hi,by omega,by rw[e];exact hs _ (List.getElem_mem hi),hl,by omega⟩
def m4 (K:PySem.W.Frag):Sp:=fun vs H Q E=>lq K vs H Q E\/ ∃(y:List Nat) (d wl a:Addr) (os:List Od) (ws:List (List Nat)) (e:RD),vs=[.str (S y), .ref wl, .ref d, .ref a]/\Yd y/\y.length<=8/\iw H d wl (aq y) os ws/\wF H a e/\Ref y ws (os.map bw) e/\ ∀H',ai H H'->Q (.bl false) H'
theorem sS {K:PySem.W.Frag} {vs:List V} {H:Hp} {Q:VK} {E:XK} (h:m4 K vs H Q E):vs.length=4:=by
 rcases h with h | h
 ·exact qp h
 ·obtain ⟨_,_,_,_,_,_,_,rfl,_⟩:=h;rfl
theorem jA {x l:List Nat} (h: ∀c∈l,x≠[c]):qV (.str (S x)) (bO l)=false:=by
 unfold qV
 rw[List.any_eq_false]
 intro v hv
 unfold bO at hv
 obtain ⟨c,hc,rfl⟩:=List.mem_map.mp hv
 show ¬(decide (S [c]=S x)=true)
 rw[decide_eq_true_iff]
 intro z
 have e:=congrArg (fun t:Str=>t.cps.toList) z
 have e2:(S [c]).cps.toList=(S x).cps.toList:=e
 rw[fA,fA]at e2
 exact h c hc e2.symm
structure Rr where
 a:Addr
 r:RD
noncomputable def kJ (ds:List Rr):List V:=ds.map fun x=>V.ref x.a
theorem fT (ds:List Rr):(kJ ds).length=ds.length:=by unfold kJ;rw[List.length_map]
theorem Bj {ds:List Rr} {i:Nat} {x:V} (h:(kJ ds)[i]? =some x): ∃p,ds[i]? =some p/\x=V.ref p.a:=by
 unfold kJ at h
 rw[List.getElem?_map]at h
 cases e:ds[i]? with
 | none=>rw[e]at h;cases h
 | some p=>rw[e]at h;cases h;exact ⟨p,rfl,rfl⟩
def Ends (y:List Nat) (P:List (List Nat)->cy->Prop) (R:Nat->Prop):Nat->List (List Nat)->cy->List RD->Prop
 | _,ws,L,[]=>P ws L
 | k,ws,L,r::rs=>(∃e,r=sR e/\DC y (aq y) ws L e/\Ends y P R (k+1) (dW ws e) (dO (aq y) ws L e) rs)\/(Ref y ws L r/\R k)
def wH (_:PySem.W.Frag) (c:Addr):Sp:=fun vs H Q E=> ∃(y:List Nat) (dr:Addr) (ws:List (List Nat)) (os:List Od) (ep:Addr) (ds:List Rr),vs=[.str (S y), .ref dr, .ref ep]/\Yd y/\y.length<=8/\Good y ws (os.map bw)/\e_ H dr ws os/\H ep=some (.lst (kJ ds))/\(∀x∈ds,wF H x.a x.r)/\ds.length<=50000/\
 Ends y (fun fN L'=> ∀(lO:Addr) (os':List Od) (H':Hp),e_ H' lO fN os'->os'.map bw=L'->Good y fN (os'.map bw)->ai H H'->Q (.ref lO) H') (fun k=> ∀(d:Addr) (H':Hp),H' d=some (qF d [("at", .int k)])->ai H H'->E (.ref c) (some d) H') 0 ws (os.map bw) (ds.map Rr.r)
theorem Bk {K:PySem.W.Frag} {c:Addr} {vs:List V} {H:Hp} {Q:VK} {E:XK} (h:wH K c vs H Q E):vs.length=3:=by obtain ⟨_,_,_,_,_,_,rfl,_⟩:=h;rfl
def sV (K:PySem.W.Frag):Sp:=fun vs H Q E=>o6 K vs H Q E\/ ∃(y:List Nat) (d wl ol a:Addr) (Ws:List Wc) (Os:List Oc) (L:cy) (m:Nat) (e:RD),vs=[.str (S y), .ref d, .ref a]/\Yd y/\y.length<=8/\dH H d wl ol Ws Os m/\Wd (oW Ws) (oO Os) L m/\Good y (lets (oW Ws)) L/\wF H a e/\Ref y (lets (oW Ws)) L e/\ ∀H',ai H H'->Q (.bl false) H'
theorem yk {K:PySem.W.Frag} {vs:List V} {H:Hp} {Q:VK} {E:XK} (h:sV K vs H Q E):vs.length=3:=by
 rcases h with h | h
 ·exact uW h
 ·obtain ⟨_,_,_,_,_,_,_,_,_,_,rfl,_⟩:=h;rfl
def o_ (_:PySem.W.Frag):Sp:=fun vs H Q _=> ∃(b:Addr) (y:List Nat),vs=[.ref b, .str (S y)]/\bD H b/\y≠[]/\y.length<=8/\ ∀(t:Addr) (ws:List (List Nat)) (H':Hp),H t=none->t≠b->H' t=some (.tup (bX ws))->xT y ws->(∀w∈ws,w.length<13)->bD H' b->aI b H H'->Q (.ref t) H'
theorem u7 {K:PySem.W.Frag} {vs:List V} {H:Hp} {Q:VK} {E:XK} (h:o_ K vs H Q E):vs.length=2:=by obtain ⟨c,_,rfl,_⟩:=h;rfl
def sW (K:PySem.W.Frag):Sp:=fun vs H Q E=>o4 K vs H Q E\/ ∃(b:Addr) (y:List Nat) (dr:Addr) (os:List Od),vs=[.ref b, .str (S y), .ref dr]/\bD H b/\Yd y/\1<=y.length/\y.length<=8/\Good y [] (os.map bw)/\e_ H dr [] os/\
 ∀(a:Addr) (H':Hp),H' a=some (.tup [.str (S gN), .int 0])->aI b H H'->Q (.ref a) H'
theorem yl {K:PySem.W.Frag} {vs:List V} {H:Hp} {Q:VK} {E:XK} (h:sW K vs H Q E):vs.length=3:=by
 rcases h with h | h
 ·exact uV h
 ·obtain ⟨_,_,_,_,rfl,_⟩:=h;rfl
theorem Bl {y:List Nat} {os:List Od} (g:Good y [] (os.map bw)): ∀o∈os,o.ps=[]:=fun o ho=>by
 obtain ⟨j,hj⟩:=List.mem_iff_getElem?.mp ho
 have hl:=g.lk.1
 rw[List.length_map]at hl
 have LX:j<(aq y).length:=by rw[<-hl];exact (List.getElem?_eq_some_iff.mp hj).1
 have:=g.lk.2 j (bw o) _ (by rw[List.getElem?_map,hj];rfl) (List.getElem?_eq_getElem LX)
 have e:bw o=[]:=List.perm_nil.mp this
 unfold bw at e
 exact List.map_eq_nil_iff.mp e
def wI (_:PySem.W.Frag):Sp:=fun vs H Q _=> ∃(b:Addr) (y:List Nat) (dr:Addr) (ws:List (List Nat)) (os:List Od),vs=[.ref b, .str (S y), .ref dr]/\bD H b/\Yd y/\1<=y.length/\y.length<=8/\Good y ws (os.map bw)/\e_ H dr ws os/\
 ∀(a:Addr) (r:RD) (H':Hp),wF H' a r->bD H' b->aI b H H'->Q (.ref a) H'
theorem Bm {K:PySem.W.Frag} {vs:List V} {H:Hp} {Q:VK} {E:XK} (h:wI K vs H Q E):vs.length=3:=by obtain ⟨_,_,_,_,_,rfl,_⟩:=h;rfl
noncomputable def iE:List Nat:=[114,101,102,117,115,101,100]
noncomputable def iF:List Nat:=[116,111,108,100]
def sX (_:PySem.W.Frag):Sp:=fun vs H Q _=> ∃(y:List Nat) (dr:Addr) (ws:List (List Nat)) (os:List Od) (ep:Addr) (ds:List Rr),vs=[.str (S y), .ref dr, .ref ep]/\Yd y/\y.length<=8/\Good y ws (os.map bw)/\e_ H dr ws os/\H ep=some (.lst (kJ ds))/\(∀x∈ds,wF H x.a x.r)/\ds.length<=50/\
 Ends y (fun fN L'=> ∀(lO:Addr) (os':List Od) (H':Hp),e_ H' lO fN os'->os'.map bw=L'->Good y fN (os'.map bw)->ai H H'->Q (.ref lO) H') (fun k=> ∀(p:Addr) (H':Hp),H' p=some (.lst [.str (S iE), .int k])->ai H H'->Q (.ref p) H') 0 ws (os.map bw) (ds.map Rr.r)
theorem ym {K:PySem.W.Frag} {vs:List V} {H:Hp} {Q:VK} {E:XK} (h:sX K vs H Q E):vs.length=3:=by obtain ⟨_,_,_,_,_,_,rfl,_⟩:=h;rfl
noncomputable def j_ (d:PyData):PyData:= .tuple [.str (S iF),d]
noncomputable def Ie (k:Nat):PyData:= .list [.str (S iE), .int k]
def sY (_:PySem.W.Frag):Sp:=fun vs H Q _=> ∃(y:List Nat) (dr:Addr) (ws:List (List Nat)) (os:List Od) (ep:Addr) (ds:List Rr),vs=[.str (S y), .ref dr, .ref ep]/\Yd y/\y.length<=8/\Good y ws (os.map bw)/\e_ H dr ws os/\H ep=some (.lst (kJ ds))/\(∀x∈ds,wF H x.a x.r)/\ds.length<=50/\
 Ends y (fun fN L'=> ∀(t lO:Addr) (os':List Od) (H':Hp),H' t=some (.tup [.str (S iF), .ref lO])->e_ H' lO fN os'->os'.map bw=L'->Good y fN (os'.map bw)->ai H H'->Q (.ref t) H') (fun k=> ∀(p:Addr) (H':Hp),H' p=some (.lst [.str (S iE), .int k])->ai H H'->Q (.ref p) H') 0 ws (os.map bw) (ds.map Rr.r)
theorem yn {K:PySem.W.Frag} {vs:List V} {H:Hp} {Q:VK} {E:XK} (h:sY K vs H Q E):vs.length=3:=by obtain ⟨_,_,_,_,_,_,rfl,_⟩:=h;rfl
theorem Ends.mono {y:List Nat} {P P':List (List Nat)->cy->Prop} {R R':Nat->Prop} (hP: ∀ws L,P ws L->P' ws L) (hR: ∀k,R k->R' k): ∀{rs:List RD} {k:Nat} {ws:List (List Nat)} {L:cy},Ends y P R k ws L rs->Ends y P' R' k ws L rs
 | [],_,_,_,h=>hP _ _ h
 | _::_,_,_,_,h=>by
  rcases h with ⟨e,h1,h2,h3⟩ | ⟨h1,h2⟩
  ·exact .inl ⟨e,h1,h2,Ends.mono hP hR h3⟩
  ·exact .inr ⟨h1,hR _ h2⟩
theorem DP {ws:List (List Nat)} {n:Nat} {e:eQ} (h: ∀w∈ws,w.length<=n): ∀w∈dW ws e,w.length<=n+2:=by
 have hd: ∀c:Nat,(ws.getD c []).length<=n:=fun c=>by
  rw[List.getD_eq_getElem?_getD]
  cases hc:ws[c]? with
  | none=>exact Nat.zero_le _
  | some w=>exact h w (List.mem_of_getElem? hc)
 have set: ∀(c:Nat) (u:List Nat),u.length<=n+2-> ∀w∈ws.set c u,w.length<=n+2:=fun c u hu w hw=>by
  rcases List.mem_or_eq_of_mem_set hw with g | g
  ·have:=h w g;omega
  ·rw[g];exact hu
 cases e with
 | swap b m=>exact fun w hw=>Nat.le_trans (h w hw) (by omega)
 | out c k=>exact set c _ (by have:=hd c;simp only[List.length_append,List.length_take,List.length_drop];omega)
 | turn c=>exact set c _ (by have:=hd c;simp only[List.length_append,List.length_take,List.length_drop];omega)
 | ins c k x m=>exact set c _ (by have:=hd c;simp only[List.length_append,List.length_take,List.length_drop,List.length_cons,List.length_nil];omega)
theorem wJ {y:List Nat}: ∀{rs:List RD} {n k:Nat} {ws:List (List Nat)} {L:cy},(∀w∈ws,w.length<=n)->n+2*rs.length<=40->(∃fN L', ∀P R,P fN L'->Ends y P R k ws L rs)\/ ∃j,j<k+rs.length/\ ∀P R,R j->Ends y P R k ws L rs
 | [],_,_,ws,L,_,_=> .inl ⟨ws,L,fun _ _ h=>h⟩
 | r::rs,n,k,ws,L,hw,hn=>by
  rw[List.length_cons]at hn
  rcases Ic (y:=y) (ws:=ws) (L:=L) (fun w hx=>by have:=hw w hx;omega) r with h | ⟨e,he,aX⟩
  ·exact .inr ⟨k,by rw[List.length_cons];omega,fun P R hR=> .inr ⟨h,hR⟩⟩
  ·rcases wJ (y:=y) (rs:=rs) (n:=n+2) (k:=k+1) (L:=dO (aq y) ws L e) (DP (e:=e) hw) (by omega) with ⟨fN,L',h⟩ | ⟨j,hj,h⟩
   ·exact .inl ⟨fN,L',fun P R hP=> .inl ⟨e,he,aX,h P R hP⟩⟩
   ·exact .inr ⟨j,by rw[List.length_cons];omega,fun P R hR=> .inl ⟨e,he,aX,h P R hR⟩⟩
theorem pf {y:List Nat} {P:List (List Nat)->cy->Prop} {R:Nat->Prop}: ∀{es:List eQ} {k:Nat} {ws:List (List Nat)} {L:cy},Path y ws L es->P (mL y ws L es).1 (mL y ws L es).2->Ends y P R k ws L (es.map sR)
 | [],_,_,_,_,h=>h
 | e::_,_,_,_,⟨h1,h2⟩,h=> .inl ⟨e,rfl,h1,pf h2 h⟩
theorem u9 {y:List Nat} {H:Hp} {dr:Addr} {ws:List (List Nat)} {os:List Od} (hy:Yd y) (hz:y.length<=8) (h:e_ H dr ws os) (g:Good y ws (os.map bw)):oj 39 90000 (zh ws (os.map bw)):=by
 unfold zh
 rw[<-wB]
 have zg:=cK hy
 have hl:=g.ln
 rw[List.length_map]at hl
 have s1:oj 38 200 (.tuple (HK ws)):= .tup (.all (a:=40) (fun x hx=>by
  obtain ⟨w,VH,rfl⟩:=List.mem_map.mp hx
  exact .str (fun c hc=>(hy.lt c ((g.lr w VH).1 c hc)).lt) (g.lr w VH).2) (by unfold HK;rw[List.length_map];have:=g.kX;omega))
 have s2:oj 38 80000 (.tuple (os.map QE)):= .tup (.all (a:=19000) (fun x hx=>by
  obtain ⟨o,gf,rfl⟩:=List.mem_map.mp hx
  have k:=h.od o gf
  have m:=qk (k:=35) k.pr
  exact .tup ⟨m.lv,m.sh,m.ly,Nat.le_trans m.dp (by decide),Nat.le_trans m.wt (by have:=k.fw;omega)⟩) (by rw[List.length_map];omega))
 exact .tup (.cons (a:=200) (b:=80001) s1 (.cons (a:=80000) (b:=0) s2 .nil (by decide)) (by decide))
theorem qy {d:PyData} (h:oj 39 90000 d):oj 40 100000 (j_ d):= .tup (.cons (a:=4) (b:=90001) (.str (by decide) (by decide)) (.cons (a:=90000) (b:=0) h .nil (by decide)) (by decide))
theorem Bn {k:Nat} (h:k<=1000):oj 40 100000 (Ie k):= .lst (.cons (a:=7) (b:=41) (.str (by decide) (by decide)) (.cons (a:=40) (b:=0) (.int (by show k<10 ^ 12;omega) (by decide)) .nil (by decide)) (by decide))
theorem ph {d:PyData} (h:d.hasDict=false):(j_ d).hasDict=false:=by
 show (PyData.hasDict (.str (S iF))||(PyData.hasDict d||false))=false
 rw[h];rfl
theorem iR {K:PySem.W.Frag} {H:Hp} {t dr:Addr} {ws:List (List Nat)} {os:List Od} (ht:H t=some (.tup [.str (S iF), .ref dr])) (h:e_ H dr ws os):lF K H (.ref t) (j_ (zh ws (os.map bw))):= .tup (aN.of ht) (.cons (.str _) (.cons (L9 h) .nil))
theorem Bo {K:PySem.W.Frag} {H:Hp} {p:Addr} {k:Nat} (h:H p=some (.lst [.str (S iE), .int k])):lF K H (.ref p) (Ie k):= .lst (aJ.of h) (.cons (.str _) (.cons (.int _) .nil))
theorem DQ (ds:List Rr) (x:Rr) (p:Nat):(kJ ds).take p++V.ref x.a::(kJ ds).drop p=kJ (ds.take p++x::ds.drop p):=by
 unfold kJ
 rw[List.map_append,List.map_cons,List.map_take,List.map_drop]
noncomputable def nG (ds:List Dd):List Rr:=ds.map fun x=>⟨x.a,sR x.e⟩
theorem Ig (ds:List Dd):kJ (nG ds)=AX ds:=by unfold kJ nG AX;rw[List.map_map];rfl
theorem Ih (ds:List Dd):(nG ds).map Rr.r=(ds.map Dd.e).map sR:=by unfold nG;rw[List.map_map,List.map_map];rfl
theorem sZ {H:Hp} {a:Addr} {e:eQ} (h:fI H a e):wF H a (sR e):=by cases e<;>exact h
theorem DR {H:Hp} {ds:List Dd} (h: ∀x∈ds,fI H x.a x.e): ∀x∈nG ds,wF H x.a x.r:=fun x hx=>by
 unfold nG at hx
 obtain ⟨z,hz,rfl⟩:=List.mem_map.mp hx
 exact sZ (h z hz)
theorem yo (L:Int) (h0:0<=L): ∃m:Nat,(if (if L<14 then L else 14)>5 then (if L<14 then L else 14) else 5)=(m:Int)/\5<=m/\m<=14:=by
 by_cases c1:L<14
 ·rw[if_pos c1]
  by_cases c2:L>5
  ·rw[if_pos c2];exact ⟨L.toNat,by omega,by omega,by omega⟩
  ·rw[if_neg c2];exact ⟨5,rfl,by decide,by decide⟩
 ·rw[if_neg c1];exact ⟨14,rfl,by decide,by decide⟩
theorem u_ {zs:List Int} {r:Nat} (h:r<zs.length): ∃z:Int,m9 (zs.map V.int) ((r:Nat):Int)=some (V.int z):=⟨zs[r],aA (by rw[List.getElem?_map,List.getElem?_eq_getElem h];rfl)⟩
theorem L_ {ls:List (List Nat)} {r:Nat} (h:r<ls.length): ∃l,l∈ls/\m9 (bX ls) ((r:Nat):Int)=some (V.str (S l)):=⟨ls[r],List.getElem_mem h,aA (by unfold bX;rw[List.getElem?_map,List.getElem?_eq_getElem h];rfl)⟩
local macro_rules | `(tactic| walk_at "rd") => `(tactic| repeat (first
 | refine ⟨_,rfl,?_⟩
 | refine ⟨_,_,rfl,rfl,?_⟩
 | refine ⟨rfl,?_⟩
 | refine And.intro (by first | decide | omega | assumption | exact Nat.le_of_ble_eq_true rfl | exact .inl ⟨by decide,by decide⟩ | exact .inr ⟨by decide,by decide⟩ | exact ⟨by decide,by decide⟩ | exact ⟨by omega,by omega⟩) ?_))
local macro_rules | `(tactic| walk_at "wk") => `(tactic| repeat (first
 | refine ⟨_,rfl,?_⟩
 | refine ⟨_,_,rfl,rfl,?_⟩
 | refine ⟨_,_,_,rfl,rfl,by first | assumption | omega,by assumption,?_⟩
 | refine ⟨rfl,?_⟩
 | refine And.intro (by first | decide | omega | assumption | exact Nat.le_of_ble_eq_true rfl | exact .inl ⟨by decide,by decide⟩ | exact .inr ⟨by decide,by decide⟩ | exact ⟨by decide,by decide⟩ | exact ⟨by omega,by omega⟩) ?_))
local macro_rules | `(tactic| walk_at "bd") => `(tactic| first | assumption | exact Yy _ | exact apl (by walk_at "bd") (by walk_at "bd"))
noncomputable def top (i:Nat):Stmt:=PySem.Challenge.pw_mustmeet_k21_deeds_that_cannot_be.main.body.getD i (.Pass ⟨0,0,0,0⟩)
noncomputable abbrev eE:Stmt:=top 16
noncomputable abbrev iS:Stmt:=top 18
noncomputable abbrev eF:Stmt:=top 20
noncomputable abbrev fk:Stmt:=top 21
noncomputable abbrev gr:Stmt:=top 22
noncomputable abbrev iT:Stmt:=top 23
noncomputable abbrev fo:Stmt:=top 24
noncomputable abbrev fq:Stmt:=top 25
noncomputable abbrev kK:Stmt:=top 26
noncomputable abbrev kL:Stmt:=top 28
noncomputable abbrev iU:Stmt:=top 29
noncomputable abbrev gs:Stmt:=top 30
noncomputable abbrev iV:Stmt:=top 31
noncomputable abbrev iW:Stmt:=top 32
noncomputable abbrev gu:Stmt:=top 33
noncomputable abbrev gv:Stmt:=top 34
noncomputable abbrev eG:Stmt:=top 35
noncomputable abbrev gz:Stmt:=top 36
noncomputable abbrev ft:Stmt:=top 37
noncomputable abbrev iX:Stmt:=top 38
noncomputable abbrev iY:Stmt:=top 39
noncomputable abbrev iZ:Stmt:=top 40
noncomputable abbrev kM:Stmt:=top 41
noncomputable abbrev i0:Stmt:=top 42
noncomputable abbrev i3:Stmt:=top 43
noncomputable abbrev pj:Stmt:=top 44
structure cA (K:PySem.W.Frag) (mg:Str->Option Value) (x:Str) (st:Stmt) (ps:List Str) (f:Addr) (fd:FuncData):Prop where
 fn:CN K x x st f fd
 mg:mg x=some (.ref f)
 bd:Binds K fd ps []
noncomputable abbrev eI:Stmt:=Ya (top 6) 0
structure Txt (K:PySem.W.Frag) (mg:Str->Option Value) (f0 f1 f2 f3 f4 f5 f6 f7 f8 f9 Fe Ff Fg Fh Fi Fj Fl Fm Fn Fo Fp Fq Fs Ft Fu Fv aw aV fe b_ dM cP ff dN dP dQ cC cQ cR fg dc:Addr) (d0 d1 d2 d3 d4 d5 d6 d7 d8 d9 Oi Oj Ol Om Oo Oq Ot Ou Ov Ow Ox Oy Oz OA DS Ii iG:FuncData):Prop where
 F0:cA K mg "contrary" eE ["letter"] f0 d0
 F1:cA K mg "bands" iS ["yard"] f1 d1
 F2:cA K mg "renumber" eF ["orders","cord","places"] f2 d2
 F3:cA K mg "do_swap" fk ["orders","band","number"] f3 d3
 F4:cA K mg "do_out" gr ["words","orders","cord","place"] f4 d4
 F5:cA K mg "do_in" iT ["words","orders","cord","place","letter","number"] f5 d5
 F6:cA K mg "do_turn" fo ["words","orders","cord"] f6 d6
 F7:cA K mg "do_deed" fq ["yard","words","orders","deed"] f7 d7
 F8:cA K mg "done" kK ["yard","drawing","deeds"] f8 d8
 F9:cA K mg "_law_box" kL ["_law_script","_law_k"] f9 d9
 cx:cA K mg "_law_take" iU ["_law_box_here","_law_many"] Fe Oi
 kf:cA K mg "_law_other" gs ["_law_letter"] Ff Oj
 Ij:cA K mg "_law_yard" iV ["_law_box_here","_law_few","_law_top"] Fg Ol
 Ik:cA K mg "_law_word" iW ["_law_box_here","_law_yard_here","_law_top"] Fh Om
 Il:cA K mg "_law_order" gu ["_law_box_here","_law_things"] Fi Oo
 tO:cA K mg "_law_bands" gv ["_law_yard_here"] Fj Oq
 Im:cA K mg "_law_drawing" eG ["_law_box_here","_law_yard_here","_law_words_here"] Fl Ot
 Io:cA K mg "_law_words" gz ["_law_box_here","_law_yard_here"] Fm Ou
 Ip:cA K mg "_law_opened" ft ["_law_drawing_here"] Fn Ov
 Iq:cA K mg "_law_shut" iX ["_law_world"] Fo Ow
 Ir:cA K mg "_law_does" iY ["_law_yard_here","_law_world","_law_deed_here"] Fp Ox
 Iu:cA K mg "_law_deed" iZ ["_law_box_here","_law_yard_here","_law_drawing_here"] Fq Oy
 Iv:cA K mg "_law_odd" kM ["_law_box_here","_law_yard_here","_law_drawing_here"] Fs Oz
 Cj:cA K mg "_law_gone" i0 ["_law_yard_here","_law_drawing_here","_law_deeds"] Ft OA
 yp:cA K mg "_law_told" i3 ["_law_yard_here","_law_drawing_here","_law_deeds"] Fu DS
 OB:cA K mg "law" pj ["_law_script"] Fv Ii
 s_:mg "NoDeed"=some (.ref aw)
 lx:mg "MeetError"=some (.ref aV)
 DT:mg "NoCut"=some (.ref fe)
 tf:mg "NoDrawing"=some (.ref b_)
 Bp:mg "NoName"=some (.ref dM)
 yq:mg "NoPaper"=some (.ref cP)
 DU:mg "NoRow"=some (.ref ff)
 Bq:mg "NoText"=some (.ref dN)
 Br:mg "NoWord"=some (.ref dP)
 Bs:mg "NoYard"=some (.ref dQ)
 va:mg "NotApart"=some (.ref cC)
 yr:mg "NotLone"=some (.ref cQ)
 yt:mg "TooLong"=some (.ref cR)
 DV:mg "Twice"=some (.ref fg)
 eS:XC K aw
 r_NoDeed:PySem.W.mroIn K aw (.ref aV)=some true
 tm:XC K aV
 Bt:E6 K aw dc
 Bu:CN K "__init__" "NoDeed.__init__" eI dc iG
 Bv:Binds K iG ["self","at"] []
 n_NoDeed_at:ub K aw "at"
 xb:E7 K aV
 k_NoDeed_NoCut:PySem.W.kitOne K (.ref aw) (.ref fe)=some false
 k_NoDeed_NoDrawing:PySem.W.kitOne K (.ref aw) (.ref b_)=some false
 k_NoDeed_NoName:PySem.W.kitOne K (.ref aw) (.ref dM)=some false
 k_NoDeed_NoPaper:PySem.W.kitOne K (.ref aw) (.ref cP)=some false
 k_NoDeed_NoRow:PySem.W.kitOne K (.ref aw) (.ref ff)=some false
 k_NoDeed_NoText:PySem.W.kitOne K (.ref aw) (.ref dN)=some false
 k_NoDeed_NoWord:PySem.W.kitOne K (.ref aw) (.ref dP)=some false
 k_NoDeed_NoYard:PySem.W.kitOne K (.ref aw) (.ref dQ)=some false
 k_NoDeed_NotApart:PySem.W.kitOne K (.ref aw) (.ref cC)=some false
 k_NoDeed_NotLone:PySem.W.kitOne K (.ref aw) (.ref cQ)=some false
 k_NoDeed_TooLong:PySem.W.kitOne K (.ref aw) (.ref cR)=some false
 k_NoDeed_Twice:PySem.W.kitOne K (.ref aw) (.ref fg)=some false
 k_NoDeed_NoDeed:PySem.W.kitOne K (.ref aw) (.ref aw)=some true
 k_NoDeed_ValueError:PySem.W.kitOne K (.ref aw) (.type "ValueError")=some true
 z_ValueError:mg "ValueError"=none
 z_enumerate:mg "enumerate"=none
 z_int:mg "int"=none
 z_isinstance:mg "isinstance"=none
 z_len:mg "len"=none
 z_list:mg "list"=none
 z_max:mg "max"=none
 z_min:mg "min"=none
 z_range:mg "range"=none
 z_repr:mg "repr"=none
 z_sorted:mg "sorted"=none
 z_tuple:mg "tuple"=none
 z_zip:mg "zip"=none
theorem tq:bc ["letter"] ["letter"] (ar eE):=⟨rfl,rfl,rfl,by decide+kernel,rfl,by decide+kernel,by decide+kernel⟩
theorem Bw:bc ["yard"] ["yard"] (ar iS):=⟨rfl,rfl,rfl,by decide+kernel,rfl,by decide+kernel,by decide+kernel⟩
theorem fU:bc ["orders","cord","places","band","kept","strand"] ["orders","cord","places"] (ar eF):=⟨rfl,rfl,rfl,by decide+kernel,rfl,by decide+kernel,by decide+kernel⟩
theorem jB:bc ["orders","band","number","order","strand"] ["orders","band","number"] (ar fk):=⟨rfl,rfl,rfl,by decide+kernel,rfl,by decide+kernel,by decide+kernel⟩
theorem pk:bc ["words","orders","cord","place","word"] ["words","orders","cord","place"] (ar gr):=⟨rfl,rfl,rfl,by decide+kernel,rfl,by decide+kernel,by decide+kernel⟩
theorem m5:bc ["words","orders","cord","place","letter","number","word","order"] ["words","orders","cord","place","letter","number"] (ar iT):=⟨rfl,rfl,rfl,by decide+kernel,rfl,by decide+kernel,by decide+kernel⟩
theorem m7:bc ["words","orders","cord","word"] ["words","orders","cord"] (ar fo):=⟨rfl,rfl,rfl,by decide+kernel,rfl,by decide+kernel,by decide+kernel⟩
theorem vb:bc ["yard","words","orders","deed"] ["yard","words","orders","deed"] (ar fq):=⟨rfl,rfl,rfl,by decide+kernel,rfl,by decide+kernel,by decide+kernel⟩
theorem gK:bc ["yard","drawing","deeds","words","orders","band","order","number","deed"] ["yard","drawing","deeds"] (ar kK):=⟨rfl,rfl,rfl,by decide+kernel,rfl,by decide+kernel,by decide+kernel⟩
theorem ka:bc ["_law_script","_law_k","_law_cell","_law_seed"] ["_law_script","_law_k"] (ar kL):=⟨rfl,rfl,rfl,by decide+kernel,rfl,by decide+kernel,by decide+kernel⟩
theorem m8:bc ["_law_box_here","_law_many","_law_digit","_law_one"] ["_law_box_here","_law_many"] (ar iU):=⟨rfl,rfl,rfl,by decide+kernel,rfl,by decide+kernel,by decide+kernel⟩
theorem kN:bc ["_law_letter","_law_small","_law_capital"] ["_law_letter"] (ar gs):=⟨rfl,rfl,rfl,by decide+kernel,rfl,by decide+kernel,by decide+kernel⟩
theorem eT:bc ["_law_box_here","_law_few","_law_top","_law_left","_law_ends","_law_k","_law_letter","_law_found"] ["_law_box_here","_law_few","_law_top"] (ar iV):=⟨rfl,rfl,rfl,by decide+kernel,rfl,by decide+kernel,by decide+kernel⟩
theorem Bx:bc ["_law_box_here","_law_yard_here","_law_top"] ["_law_box_here","_law_yard_here","_law_top"] (ar iW):=⟨rfl,rfl,rfl,by decide+kernel,rfl,by decide+kernel,by decide+kernel⟩
theorem kO:bc ["_law_box_here","_law_things","_law_left","_law_found"] ["_law_box_here","_law_things"] (ar gu):=⟨rfl,rfl,rfl,by decide+kernel,rfl,by decide+kernel,by decide+kernel⟩
theorem yu:bc ["_law_yard_here"] ["_law_yard_here"] (ar gv):=⟨rfl,rfl,rfl,by decide+kernel,rfl,by decide+kernel,by decide+kernel⟩
theorem du:bc ["_law_box_here","_law_yard_here","_law_words_here","_law_orders","_law_band","_law_some","_law_c","_law_word_here"] ["_law_box_here","_law_yard_here","_law_words_here"] (ar eG):=⟨rfl,rfl,rfl,by decide+kernel,rfl,by decide+kernel,by decide+kernel⟩
theorem fu:bc ["_law_box_here","_law_yard_here","_law_left","_law_found","_law_k","_law_word_here"] ["_law_box_here","_law_yard_here"] (ar gz):=⟨rfl,rfl,rfl,by decide+kernel,rfl,by decide+kernel,by decide+kernel⟩
theorem dh:bc ["_law_drawing_here","_law_number","_law_words_here","_law_c","_law_word_here","_law_i","_law_letter"] ["_law_drawing_here"] (ar ft):=⟨rfl,rfl,rfl,by decide+kernel,rfl,by decide+kernel,by decide+kernel⟩
theorem eU:bc ["_law_world","_law_strand","_law_c","_law_word_here","_law_i","_law_letter","_law_number","_law_words_here"] ["_law_world"] (ar iX):=⟨rfl,rfl,rfl,by decide+kernel,rfl,by decide+kernel,by decide+kernel⟩
theorem cL:bc ["_law_yard_here","_law_world","_law_deed_here","_law_names","_law_words_here","_law_orders","_law_order_here","_law_word_here","_law_turn","_law_number","_law_step","_law_letter"] ["_law_yard_here","_law_world","_law_deed_here"] (ar iY):=⟨rfl,rfl,rfl,by decide+kernel,rfl,by decide+kernel,by decide+kernel⟩
theorem cw:bc ["_law_box_here","_law_yard_here","_law_drawing_here","_law_words_here","_law_orders","_law_form","_law_names","_law_c","_law_some","_law_d","_law_word_here","_law_x","_law_k","_law_wide"] ["_law_box_here","_law_yard_here","_law_drawing_here"] (ar iZ):=⟨rfl,rfl,rfl,by decide+kernel,rfl,by decide+kernel,by decide+kernel⟩
theorem dR:bc ["_law_box_here","_law_yard_here","_law_drawing_here","_law_words_here","_law_orders","_law_form","_law_c","_law_names","_law_x","_law_many","_law_i","_law_sizes","_law_k"] ["_law_box_here","_law_yard_here","_law_drawing_here"] (ar kM):=⟨rfl,rfl,rfl,by decide+kernel,rfl,by decide+kernel,by decide+kernel⟩
theorem kc:bc ["_law_yard_here","_law_drawing_here","_law_deeds","_law_world","_law_at","_law_deed_here"] ["_law_yard_here","_law_drawing_here","_law_deeds"] (ar i0):=⟨rfl,rfl,rfl,by decide+kernel,rfl,by decide+kernel,by decide+kernel⟩
theorem eV:bc ["_law_yard_here","_law_drawing_here","_law_deeds","_law_found","_law_caught","e","_law_others","_law_more"] ["_law_yard_here","_law_drawing_here","_law_deeds"] (ar i3):=⟨rfl,rfl,rfl,by decide+kernel,rfl,by decide+kernel,by decide+kernel⟩
theorem dj:bc ["_law_script","_law_box_here","_law_yard_here","_law_first","_law_here","_law_good","_law_k","_law_deed_here","_law_due","_law_deeds","_law_turn"] ["_law_script"] (ar pj):=⟨rfl,rfl,rfl,by decide+kernel,rfl,by decide+kernel,by decide+kernel⟩
section
variable {P:Program} {w:World} {K:PySem.W.Frag} {mg:Str->Option Value} {base:Heap} {f0 f1 f2 f3 f4 f5 f6 f7 f8 f9 Fe Ff Fg Fh Fi Fj Fl Fm Fn Fo Fp Fq Fs Ft Fu Fv aw aV fe b_ dM cP ff dN dP dQ cC cQ cR fg dc:Addr} {d0 d1 d2 d3 d4 d5 d6 d7 d8 d9 Oi Oj Ol Om Oo Oq Ot Ou Ov Ow Ox Oy Oz OA DS Ii iG:FuncData}
variable (T:Txt K mg f0 f1 f2 f3 f4 f5 f6 f7 f8 f9 Fe Ff Fg Fh Fi Fj Fl Fm Fn Fo Fp Fq Fs Ft Fu Fv aw aV fe b_ dM cP ff dN dP dQ cC cQ cR fg dc d0 d1 d2 d3 d4 d5 d6 d7 d8 d9 Oi Oj Ol Om Oo Oq Ot Ou Ov Ow Ox Oy Oz OA DS Ii iG)
include T
theorem DW:cD P w K mg base iK 1 f9 d9 ["_law_script","_law_k"] (wa K):=by
 refine T.F9.fn.ok ka (fun vs H Q E h=>AJ h) (fun dS A outer s H vs Q E hr h=>?_)
 refine ⟨_,(ag (aB (i:=2) ka.nd rfl (Or.inl rfl) (aE bz (aE kn ah (pv 1)) ah))
   (ag (bH (aS kQ (pv 1) (au (ax K rfl) rfl T.z_len PySem.boot_len (aa (pv 0) af)) (bq _)) (ak (aB (i:=2) ka.nd rfl (Or.inl rfl) (az (aH K rfl) (pv 0) (pv 1) (fun _ _=>rfl)))) (ak (bH (aS lV (au (ax K rfl) rfl T.z_len PySem.boot_len (aa (pv 0) af)) ah (bq _)) (ak (aB (i:=2) ka.nd rfl (Or.inl rfl) (aE bz (pv 2) (aE kn (aE gF (az (aH K rfl) (pv 0) (aE gF (pv 1) (au (ax K rfl) rfl T.z_len PySem.boot_len (aa (pv 0) af))) (fun _ _=>rfl)) ah) ah)))) aY)))
   (ag (aB (i:=3) ka.nd rfl (Or.inl rfl) (aE gF (aE lU (aE bz (aE bz (aE gF (pv 2) ah) (aE kn ah (pv 1))) ah) ah) ah))
   (ak (aQ (bt (aa (az (aH K rfl) (bt (aa ah (aa (pv 2) af))) (bb nQ rfl T.z_int boot_int (aa (vB Kp (pv 2) (aE lU ah ah) (bq _)) af)) (fun _ _=>rfl)) (aa (aE bz (aE gF (pv 3) ah) ah) af)))))))),?_⟩
 obtain ⟨a,ns,k,rfl,hS,hk,q⟩:=h
 have hp:(0:Int)<2147483629:=by decide
 walk_at "rd"
 refine ⟨a,_,rfl, .inl hS,?_⟩
 walk_at "rd"
 refine eu (fun e=>?_) (fun e=>?_)
 ·have e':(k:Int)<((ns.map V.int).length:Nat):=of_decide_eq_true e
  rw[List.length_map]at e'
  obtain ⟨z,hz⟩:=we (ns:=ns) (i:=k) (by omega)
  walk_at "rd"
  refine ⟨a,_,k,_,rfl,rfl,hS,aA hz,?_⟩
  walk_at "rd"
  refine fun p1 n1=>?_
  walk_at "rd"
  refine .inr ⟨_,rfl,?_⟩
  obtain ⟨y,hy⟩:=uJ _ z
  refine ⟨p1,_,_,_,rfl,rfl,aJ.of ae,hy,?_⟩
  walk_at "rd"
  exact fun p2 n2=>q p2 _ (ai.free (ai.upd n1) n2) ⟨_,_,ae⟩ ((ai.upd n1).trans (ai.upd n2))
 ·walk_at "rd"
  refine ⟨a,_,rfl, .inl hS,?_⟩
  walk_at "rd"
  refine eu (fun e2=>?_) (fun e2=>?_)
  ·have e':(0:Int)<((ns.map V.int).length:Nat):=of_decide_eq_true e2
   have hl:(0:Int)<(ns.length:Int):=by rw[List.length_map]at e';exact e'
   have m1:0<=(k:Int)%(ns.length:Int):=Int.emod_nonneg _ (by omega)
   have m2:(k:Int)%(ns.length:Int)<(ns.length:Int):=Int.emod_lt_of_pos _ hl
   obtain ⟨z,hz⟩:=we (ns:=ns) (i:=((k:Int)%(ns.length:Int)).toNat) (by omega)
   have Yz:m9 (ns.map V.int) ((k:Int)%((ns.map V.int).length:Nat))=some (V.int z):=by
    have:=aA hz
    rw[Int.toNat_of_nonneg m1]at this
    rw[List.length_map]
    exact this
   walk_at "rd"
   refine ⟨a,_,rfl, .inl hS,?_⟩
   walk_at "rd"
   refine ⟨a,_,_,_,rfl,rfl,hS,Yz,?_⟩
   walk_at "rd"
   refine fun p1 n1=>?_
   walk_at "rd"
   refine .inr ⟨_,rfl,?_⟩
   obtain ⟨y,hy⟩:=uJ _ _
   refine ⟨p1,_,_,_,rfl,rfl,aJ.of ae,hy,?_⟩
   walk_at "rd"
   exact fun p2 n2=>q p2 _ (ai.free (ai.upd n1) n2) ⟨_,_,ae⟩ ((ai.upd n1).trans (ai.upd n2))
  ·walk_at "rd"
   refine fun p1 n1=>?_
   walk_at "rd"
   refine .inr ⟨_,rfl,?_⟩
   obtain ⟨y,hy⟩:=uJ _ _
   refine ⟨p1,_,_,_,rfl,rfl,aJ.of ae,hy,?_⟩
   walk_at "rd"
   exact fun p2 n2=>q p2 _ (ai.free (ai.upd n1) n2) ⟨_,_,ae⟩ ((ai.upd n1).trans (ai.upd n2))
theorem fK:cD P w K mg base iK 1 Fe Oi ["_law_box_here","_law_many"] (rP K):=by
 refine T.cx.fn.ok m8 (fun vs H Q E h=>xK h) (fun dS A outer s H vs Q E hr h=>?_)
 refine ⟨_,(ag (bH (aS lV (az (aH K rfl) (pv 0) ah (fun _ _=>rfl)) ah (bq _)) (ag (aB (i:=2) m8.nd rfl (Or.inl rfl) (aE gF (az (aH K rfl) (pv 0) ah (fun _ _=>rfl)) (pv 1)))
   (ag (fX (aE vv (az (aH K rfl) (pv 0) ah (fun _ _=>rfl)) (pv 1)) (gY (pv 0) ah set_list))
   (ak (aQ (pv 2))))) aY)
   (ag (aB (i:=3) m8.nd rfl (Or.inl rfl) (aE gF (aE kn (az (aH K rfl) (pv 0) ah (fun _ _=>rfl)) ah) ah))
   (ag (fX (aE bz (aE gF (aE bz (aE kn (pv 3) ah) ah) ah) ah) (gY (pv 0) ah set_list))
   (ak (aQ (aE gF (aE vv (aE bz (aE kn (pv 3) ah) (az (aH K rfl) (pv 0) ah (fun _ _=>rfl))) ah) (pv 1))))))),?_⟩
 obtain ⟨b,m,rfl,⟨x,y,hb⟩,h1,h2,q⟩:=h
 have fin: ∀(r x' y':Int),0<=r->r<m->Q (.int r) (upd H b (.lst [.int x', .int y'])):=fun r x' y' h3 h4=>by
  have e:r=((r.toNat:Nat):Int):=by omega
  rw[e]
  exact q r.toNat _ (by omega) ⟨x',y',ae⟩ (aI.upd b H _)
 refine ⟨_,rfl,b,_,0,_,rfl,rfl,aJ.of hb,rfl,_,_,rfl,rfl,_,rfl,eu (fun e=>?_) (fun e=>?_)⟩
 ·refine ⟨_,rfl,b,_,0,_,rfl,rfl,aJ.of hb,rfl,_,rfl,_,_,rfl,rfl,(by omega:0<m),?_⟩
  refine ⟨_,rfl,b,_,0,_,rfl,rfl,aJ.of hb,rfl,_,rfl,_,_,rfl,rfl,⟨by omega,by omega⟩,_,rfl,b,_,0,0,rfl,rfl,hb,rfl,_,rfl,?_⟩
  exact fin (x%m) (x / m) y (Int.emod_nonneg _ (by omega)) (Int.emod_lt_of_pos _ (by omega))
 ·refine ⟨_,rfl,b,_,1,_,rfl,rfl,aJ.of hb,rfl,_,_,rfl,rfl, .inr ⟨by decide,by decide⟩,_,_,rfl,rfl,(by decide:(0:Int)<2147483647),?_⟩
  refine ⟨_,rfl,_,_,rfl,rfl, .inr ⟨by decide,by decide⟩,_,_,rfl,rfl,_,_,rfl,rfl,(by decide:(0:Int)<2147483629),_,_,rfl,rfl,_,rfl,b,_,1,1,rfl,rfl,hb,rfl,?_⟩
  refine ⟨_,rfl,_,_,rfl,rfl, .inr ⟨by decide,by decide⟩,_,rfl,b,_,1,_,rfl,rfl,aJ.of ae,rfl,_,_,rfl,rfl,_,_,rfl,rfl,⟨by decide,by decide⟩,_,rfl,_,_,rfl,rfl,(by omega:0<m),?_⟩
  exact fin _ _ _ (Int.emod_nonneg _ (by omega)) (Int.emod_lt_of_pos _ (by omega))
theorem gA:cD P w K mg base iK 1 Ff Oj ["_law_letter"] (oK K):=by
 refine T.kf.fn.ok kN (fun vs H Q E h=>uI h) (fun dS A outer s H vs Q E hr h=>?_)
 refine ⟨_,(ag (aB (i:=1) kN.nd rfl (Or.inl rfl) (bR [97,98,99,100,101,102,103,104,105,106,107,108,109,110,111,112,113,114,115,116,117,118,119,120,121,122] (by decide+kernel)))
   (ag (aB (i:=2) kN.nd rfl (Or.inl rfl) (bR [65,66,67,68,69,70,71,72,73,74,75,76,77,78,79,80,81,82,83,84,85,86,87,88,89,90] (by decide+kernel)))
   (ag (bH (aS zM (pv 0) (pv 1) (by with_unfolding_all rfl)) (ak (aQ (az nA (pv 2) (bB K rfl PySem.F.plainAttrs_str PySem.F.slot_str_index PySem.F.type_str_index oa (pv 1) (aa (pv 0) af)) (fun _ _=>rfl)))) aY)
   (ak (aQ (az nA (pv 1) (bB K rfl PySem.F.plainAttrs_str PySem.F.slot_str_index PySem.F.type_str_index oa (pv 2) (aa (pv 0) af)) (fun _ _=>rfl))))))),?_⟩
 obtain ⟨c,rfl,hc,q⟩:=h
 refine ⟨_,rfl,_,rfl,c,bo,rfl,rfl,_,rfl,eu (fun e=>?_) (fun e=>?_)⟩
 ·have hm:c∈bo:=of_decide_eq_true e
  exact ⟨_,rfl,_,rfl,rfl,_,rfl,bo,c,rfl,rfl,hm,kD,_,bL c,rfl,rfl,by decide,rO c hm,q⟩
 ·have hm:c∈kD:=hc.resolve_left fun z=>e (decide_eq_true z)
  exact ⟨_,rfl,_,rfl,rfl,_,rfl,kD,c,rfl,rfl,hm,bo,_,bL c,rfl,rfl,by decide,xJ c hm,q⟩
theorem By:cD P w K mg base iK 2 Fg Ol ["_law_box_here","_law_few","_law_top"] (rQ K):=by
 have ba:=fK (P:=P) (w:=w) (base:=base) T
 have cF:=gA (P:=P) (w:=w) (base:=base) T
 refine T.Ij.fn.ok eT (fun vs H Q E h=>xM h) (fun dS A outer s H vs Q E hr h=>?_)
 refine ⟨_,(ag (aB (i:=3) eT.nd rfl (Or.inl rfl) (bb (fD rfl) rfl T.z_list boot_list (aa (bR [97,98,99,100,101,102,103,104,105,106,107,108,109,110,111,112,113,114,115,116,117,118,119,120,121,122] (by decide+kernel)) af)))
   (ag (aB (i:=4) eT.nd rfl (Or.inl rfl) (bt af))
   (ag (cn PassesOwn.never rfl (eh rfl T.z_range (aa (aE bz (pv 1) (ay ba (hr.mono (by decide)) rfl T.cx.mg T.cx.fn.kp T.cx.bd .nil aR (aa (pv 0) (aa (aE bz (aE cB (pv 2) (pv 1)) ah) af)))) af)) (aD (i:=5) eT.nd rfl (Or.inl rfl)) (ag (aB (i:=6) eT.nd rfl (Or.inl rfl) (bB K rfl PySem.F.plainAttrs_list PySem.F.slot_list_pop PySem.F.type_list_pop hJ (pv 3) (aa (ay ba (hr.mono (by decide)) rfl T.cx.mg T.cx.fn.kp T.cx.bd .nil aR (aa (pv 0) (aa (au (ax K rfl) rfl T.z_len PySem.boot_len (aa (pv 3) af)) af))) af)))
   (ak (aB (i:=4) eT.nd rfl (Or.inl rfl) (aE hU (pv 4) (bt (aa (pv 6) (aa (ay cF (hr.mono (by decide)) rfl T.kf.mg T.kf.fn.kp T.kf.bd .nil aR (aa (pv 6) af)) af))))))))
   (ag (aB (i:=7) eT.nd rfl (Or.inl rfl) (bR [] (by decide+kernel)))
   (ag (oh PassesOwn.never (aS lV (au (ax K rfl) rfl T.z_len PySem.boot_len (aa (pv 4) af)) ah (bq _)) (ak (aB (i:=7) eT.nd rfl (Or.inl rfl) (aE gG (pv 7) (bB K rfl PySem.F.plainAttrs_list PySem.F.slot_list_pop PySem.F.type_list_pop hJ (pv 4) (aa (ay ba (hr.mono (by decide)) rfl T.cx.mg T.cx.fn.kp T.cx.bd .nil aR (aa (pv 0) (aa (au (ax K rfl) rfl T.z_len PySem.boot_len (aa (pv 4) af)) af))) af))))))
   (ak (aQ (pv 7)))))))),?_⟩
 obtain ⟨b,kX,top,rfl,hb,h1,h2,h3,q⟩:=h
 have hs:(100000:Nat)<sizeLine:=by decide
 walk_at "rd"
 intro p1 n1
 walk_at "rd"
 intro p2 n2
 have s1:ai H (upd (upd H p1 (.lst (bO bo))) p2 (.lst [])):=(ai.upd n1).trans (ai.upd n2)
 have pq:p1≠b:=hb.ne n1
 have tu:H p2=none:=ai.free (ai.upd n1) n2
 have yv:p2≠b:=hb.ne tu
 have zi:p1≠p2:=fun z=>by rw[<-z,ae]at n2;cases n2
 walk_at "rd"
 refine ⟨b,_,rfl,hb.same s1,by omega,by omega,fun n H1 hn vc s2=>?_⟩
 walk_at "rd"
 refine fh (fun i σ H'=> ∃(pe:Addr) (L E:List Nat) (kv lv:Option V),σ=[some (.ref b),some (.int kX),some (.int top),some (.ref p1),some (.ref pe),kv,lv,none]/\HJ i L E/\H' p1=some (.lst (bO L))/\H' pe=some (.lst (bO E))/\p1≠pe/\H pe=none/\bD H' b/\aI b H H')
  ⟨p2,bo,[],none,none,rfl,HJ.start,s2 _ _ (by rw[aj zi,ae];rfl) pq,s2 _ _ ae yv,zi,tu,vc,(aI.of s1).trans s2⟩ ?_ ?_
 ·rintro i σ H2 hi ⟨pe,L,E,kv,lv,rfl,yw,gS,pw,VI,OC,gQ,s3⟩
  have LS:i<26:=by simp at hi;omega
  have GN:=yw.ll
  have OD:=yw.el
  refine ⟨_,rfl, .inl ⟨rfl,_,aJ.of gS⟩,?_⟩
  walk_at "rd"
  refine ⟨p1,_,rfl, .inl (aJ.of gS),b,_,rfl,gQ,by rw[aU];omega,by rw[aU];omega,fun r H3 OE kg s4=>?_⟩
  rw[aU]at OE
  have Bz:r<L.length:=by omega
  have DZ:=s4 _ _ gS pq
  have QM:=s4 _ _ pw (hb.ne OC)
  refine ⟨p1,_,_,r,_,rfl,rfl,DZ,by omega,by omega,by rw[aU,seqIndex_of (by omega) (by omega),Int.toNat_natCast],AK Bz,?_⟩
  rw[oM]
  have eK:Lt L[r]:= .inl (yw.sm _ (List.getElem_mem Bz))
  have Ma:(upd H3 p1 (.lst (bO (L.eraseIdx r)))) pe=some (.lst (bO E)):=by rw[aj (Ne.symm VI)];exact QM
  walk_at "rd"
  intro p3 n3
  have e3:pe≠p3:=ao Ma n3
  refine ⟨pe,p3,_,_,rfl,rfl,by rw[aj e3];exact Ma,ae,by rw[aU];show E.length+2<=_;omega,fun p4 n4=>?_⟩
  have VJ:H p3=none:=((s3.trans s4).dY n1).none n3 (kg.dY pq |>.ne n3)
  have Ck:=(kg.dY (o:= .lst (bO (L.eraseIdx r))) pq).dY (o:= .lst [V.str (S [L[r]]),V.str (S [bL L[r]])]) (hb.ne VJ)
  have VL:=((s3.trans s4).dY (o:= .lst (bO (L.eraseIdx r))) n1).dY (o:= .lst [V.str (S [L[r]]),V.str (S [bL L[r]])]) VJ
  have QN:H p4=none:=VL.none n4 (Ck.ne n4)
  have VM:p1≠p4:=fun z=>by rw[<-z]at n4;by_cases z3:p1=p3<;>simp[upd,z3]at n4
  have YA:p1≠p3:=fun z=>by rw[<-z,ae]at n3;cases n3
  refine ⟨p4,L.eraseIdx r,E++[L[r],bL L[r]],_,_,rfl,yw.turn LS Bz,by rw[aj VM,aj YA,ae],?_,VM,QN,Ck.dY (hb.ne QN),VL.dY QN⟩
  rw[ae, <-DA]
  rfl
 ·rintro σ H2 ⟨pe,L,E,kv,lv,rfl,yw,gS,pw,VI,OC,gQ,s3⟩
  have OD:=yw.el
  have yX:=hb.ne OC
  walk_at "rd"
  refine ⟨fun m σ H'=> ∃F E':List Nat,σ=[some (.ref b),some (.int kX),some (.int top),some (.ref p1),some (.ref pe),kv,lv,some (.str (S F))]/\m=E'.length/\(F++E').Perm E/\H' pe=some (.lst (bO E'))/\bD H' b/\aI b H H',⟨_,[],E,rfl,rfl,List.Perm.refl _,pw,gQ,s3⟩,?_⟩
  rintro m σ H3 ⟨F,E',rfl,rfl,jx,D0,kg,s4⟩
  have hlen:=jx.length_eq
  rw[List.length_append]at hlen
  have U_:(kX:Int)+n<=9:=by omega
  have YB:E.length<=200:=by rw[OD];omega
  walk_at "rd"
  refine ⟨pe,_,rfl, .inl (aJ.of D0),_,_,rfl,rfl,_,rfl,eu (fun e=>?_) (fun e=>?_)⟩
  ·have e':(0:Int)<((bO E').length:Nat):=of_decide_eq_true e
   rw[aU]at e'
   refine ⟨_,rfl,_,rfl, .inl ⟨rfl,_,aJ.of D0⟩,?_⟩
   walk_at "rd"
   refine ⟨pe,_,rfl, .inl (aJ.of D0),b,_,rfl,kg,by rw[aU];omega,by rw[aU];omega,fun r H4 Bz pA s5=>?_⟩
   rw[aU]at Bz
   have D3:r<E'.length:=by omega
   refine ⟨pe,_,_,r,_,rfl,rfl,s5 _ _ D0 yX,by omega,by omega,by rw[aU,seqIndex_of (by omega) (by omega),Int.toNat_natCast],AK D3,?_⟩
   rw[oM]
   have hp:=fG (List.getElem?_eq_getElem D3)
   have gB:=hp.length_eq
   rw[List.length_cons]at gB
   refine ⟨F,_,rfl,rfl,by show F.length+1<=_;omega,(E'.eraseIdx r).length,by omega,F++[E'[r]],E'.eraseIdx r,rfl,rfl,?_,ae,pA.dY yX,(s4.trans s5).dY OC⟩
   rw[List.append_assoc]
   exact (List.Perm.append_left F hp).trans jx
  ·have e':E'=[]:=by
    cases E' with
    | nil=>rfl
    | cons c r=>exact absurd (decide_eq_true (by rw[aU];show (0:Int)<((r.length+1:Nat):Int);omega)) e
   subst e'
   rw[List.append_nil]at jx
   have jd:=jx.length_eq
   refine ⟨_,rfl,q F H3 (yw.yd.perm jx.symm) ?_ ?_ kg s4⟩
   ·rw[jd,OD];omega
   ·rw[jd,OD];omega
theorem i4:cD P w K mg base iK 1 Fj Oq ["_law_yard_here"] (oP K):=by
 refine T.tO.fn.ok yu (fun vs H Q E h=>uM h) (fun dS A outer s H vs Q E hr h=>?_)
 refine ⟨_,(ak (aQ (au (jX K rfl) rfl T.z_sorted boot_sorted (aa (bS ["_law_letter"] [none] (uu (pv 0)) trivial (fun _ _ _ _=>(aD (i:=0) (by decide+kernel:List.Nodup (["_law_letter"]:List Str)) rfl (Or.inl rfl))) (fun _ _ _ _=>(hZ (aS zM (pv 0) (bR [97,98,99,100,101,102,103,104,105,106,107,108,109,110,111,112,113,114,115,116,117,118,119,120,121,122] (by decide+kernel)) (by with_unfolding_all rfl)))) (fun _ _ _ _=>(pv 0))) af)))),?_⟩
 obtain ⟨y,rfl,hz,q⟩:=h
 have hs:(1000:Nat)<sizeLine:=by decide
 refine ⟨_,rfl,y,rfl,?_⟩
 refine me (xs:=bO y) (fun i acc H'=>ai H H'/\acc=bO ((y.take i).filter fun c=>decide (c∈bo))) (by rw[aU];omega) ⟨ai.refl H,rfl⟩ ?_ ?_
 ·rintro i x acc H1 Nx hi hx eZ ⟨s1,rfl⟩ nx
  obtain ⟨c,hc,rfl⟩:=dB hx
  have e:=k_ (p:=fun c=>decide (c∈bo)) hc
  refine ⟨trivial,?_⟩
  refine ⟨_,rfl,c,bo,rfl,rfl,_,rfl,?_⟩
  refine eu (fun z=>?_) (fun z=>?_)
  ·rw[if_pos z]at e
   exact ⟨_,rfl,nx _ _ (by simpa using eZ) ⟨s1,by rw[e, <-j5]⟩⟩
  ·rw[if_neg z,List.append_nil]at e
   exact nx _ _ (Nat.le_succ_of_le eZ) ⟨s1,by rw[e]⟩
 ·rintro acc H1 D eZ ⟨s1,rfl⟩ hD
  rw[rS,gn]
  have YC:(y.filter fun c=>decide (c∈bo)).length<=y.length:=List.length_filter_le _ _
  refine ⟨D,(y.filter fun c=>decide (c∈bo)).map fun c=>[c],rfl,aJ.of ae,by rw[List.length_map];omega,fun p ls hp jx JH=>?_⟩
  obtain ⟨l',rfl,pl⟩:=vQ jx
  refine q p l' _ (ai.free (ai.trans s1 (ai.upd hD)) hp) (by rw[ae, <-gn]) pl (vR JH) ((s1.trans (ai.upd hD)).trans (ai.upd hp))
theorem yx:cD P w K mg base iK 2 Fi Oo ["_law_box_here","_law_things"] (oQ K):=by
 have ba:=fK (P:=P) (w:=w) (base:=base) T
 refine T.Il.fn.ok kO (fun vs H Q E h=>uN h) (fun dS A outer s H vs Q E hr h=>?_)
 refine ⟨_,(ag (aB (i:=2) kO.nd rfl (Or.inl rfl) (bb (pW K rfl rfl) rfl T.z_list boot_list (aa (pv 1) af)))
   (ag (aB (i:=3) kO.nd rfl (Or.inl rfl) (bt af))
   (ag (oh PassesOwn.never (aS lV (au (ax K rfl) rfl T.z_len PySem.boot_len (aa (pv 2) af)) ah (bq _)) (ak (bE (bB K rfl PySem.F.plainAttrs_list PySem.F.slot_list_append PySem.F.type_list_append dn (pv 3) (aa (bB K rfl PySem.F.plainAttrs_list PySem.F.slot_list_pop PySem.F.type_list_pop hJ (pv 2) (aa (ay ba (hr.mono (by decide)) rfl T.cx.mg T.cx.fn.kp T.cx.bd .nil aR (aa (pv 0) (aa (au (ax K rfl) rfl T.z_len PySem.boot_len (aa (pv 2) af)) af))) af)) af)))))
   (ak (aQ (pv 3)))))),?_⟩
 obtain ⟨b,x,ys,rfl,hb,hx,hz,q⟩:=h
 have hs:(100000:Nat)<sizeLine:=by decide
 rcases hx with ⟨p,rfl,hp⟩ | ⟨l,rfl,rfl⟩
 ·refine ⟨_,rfl, .inr ⟨p,_,rfl,hp,fun p1 n1=>?_⟩⟩
  walk_at "wk"
  intro p2 n2
  have s1:ai H (upd (upd H p1 (.lst ys)) p2 (.lst [])):=(ai.upd n1).trans (ai.upd n2)
  have pq:p1≠b:=hb.ne n1
  have tu:H p2=none:=ai.free (ai.upd n1) n2
  have yv:p2≠b:=hb.ne tu
  have zi:p1≠p2:=fun z=>by rw[<-z,ae]at n2;cases n2
  refine ⟨fun m σ H'=> ∃F E':List V,σ=[some (.ref b),some (.ref p),some (.ref p1),some (.ref p2)]/\m=E'.length/\(F++E').Perm ys/\H' p1=some (.lst E')/\H' p2=some (.lst F)/\bD H' b/\aI b H H',⟨_,[],ys,rfl,rfl,List.Perm.refl _,by rw[aj zi,ae],ae,hb.same s1,aI.of s1⟩,?_⟩
  rintro m σ H3 ⟨F,E',rfl,rfl,jx,gS,kW,kg,s4⟩
  have hlen:=jx.length_eq
  rw[List.length_append]at hlen
  walk_at "wk"
  refine ⟨p1,_,rfl, .inl (aJ.of gS),_,_,rfl,rfl,_,rfl,eu (fun e=>?_) (fun e=>?_)⟩
  ·have e':(0:Int)<(E'.length:Nat):=of_decide_eq_true e
   refine ⟨_,rfl, .inl ⟨rfl,_,aJ.of kW⟩,_,rfl, .inl ⟨rfl,_,aJ.of gS⟩,?_⟩
   walk_at "wk"
   refine ⟨p1,_,rfl, .inl (aJ.of gS),b,_,rfl,kg,by omega,by omega,fun r H4 Bz pA s5=>?_⟩
   have D3:r<E'.length:=by omega
   refine ⟨p1,_,_,r,_,rfl,rfl,s5 _ _ gS pq,by omega,by omega,by rw[seqIndex_of (by omega) (by omega),Int.toNat_natCast],List.getElem?_eq_getElem D3,?_⟩
   have pw:=fG (List.getElem?_eq_getElem D3)
   have gB:=pw.length_eq
   rw[List.length_cons]at gB
   refine ⟨p2,_,_,rfl,rfl,by rw[aj (Ne.symm zi)];exact s5 _ _ kW yv,by omega,?_⟩
   refine ⟨(E'.eraseIdx r).length,by omega,F++[E'[r]],E'.eraseIdx r,rfl,rfl,?_,by rw[aj zi,ae],ae,(pA.dY pq).dY yv,((s4.trans s5).dY n1).dY tu⟩
   rw[List.append_assoc]
   exact (List.Perm.append_left F pw).trans jx
  ·have e':E'=[]:=by
    cases E' with
    | nil=>rfl
    | cons c r=>exact absurd (decide_eq_true (by show (0:Int)<((r.length+1:Nat):Int);omega)) e
   subst e'
   rw[List.append_nil]at jx
   exact ⟨_,rfl,q p2 F H3 tu yv kW jx kg s4⟩
 ·rw[aU]at hz
  refine ⟨_,rfl, .inl ⟨l,rfl,by omega,fun p1 n1=>?_⟩⟩
  rw[<-aU l]at hz
  generalize bO l=ys at*
  walk_at "wk"
  intro p2 n2
  have s1:ai H (upd (upd H p1 (.lst ys)) p2 (.lst [])):=(ai.upd n1).trans (ai.upd n2)
  have pq:p1≠b:=hb.ne n1
  have tu:H p2=none:=ai.free (ai.upd n1) n2
  have yv:p2≠b:=hb.ne tu
  have zi:p1≠p2:=fun z=>by rw[<-z,ae]at n2;cases n2
  refine ⟨fun m σ H'=> ∃F E':List V,σ=[some (.ref b),some (.str (S l)),some (.ref p1),some (.ref p2)]/\m=E'.length/\(F++E').Perm ys/\H' p1=some (.lst E')/\H' p2=some (.lst F)/\bD H' b/\aI b H H',⟨_,[],ys,rfl,rfl,List.Perm.refl _,by rw[aj zi,ae],ae,hb.same s1,aI.of s1⟩,?_⟩
  rintro m σ H3 ⟨F,E',rfl,rfl,jx,gS,kW,kg,s4⟩
  have hlen:=jx.length_eq
  rw[List.length_append]at hlen
  walk_at "wk"
  refine ⟨p1,_,rfl, .inl (aJ.of gS),_,_,rfl,rfl,_,rfl,eu (fun e=>?_) (fun e=>?_)⟩
  ·have e':(0:Int)<(E'.length:Nat):=of_decide_eq_true e
   refine ⟨_,rfl, .inl ⟨rfl,_,aJ.of kW⟩,_,rfl, .inl ⟨rfl,_,aJ.of gS⟩,?_⟩
   walk_at "wk"
   refine ⟨p1,_,rfl, .inl (aJ.of gS),b,_,rfl,kg,by omega,by omega,fun r H4 Bz pA s5=>?_⟩
   have D3:r<E'.length:=by omega
   refine ⟨p1,_,_,r,_,rfl,rfl,s5 _ _ gS pq,by omega,by omega,by rw[seqIndex_of (by omega) (by omega),Int.toNat_natCast],List.getElem?_eq_getElem D3,?_⟩
   have pw:=fG (List.getElem?_eq_getElem D3)
   have gB:=pw.length_eq
   rw[List.length_cons]at gB
   refine ⟨p2,_,_,rfl,rfl,by rw[aj (Ne.symm zi)];exact s5 _ _ kW yv,by omega,?_⟩
   refine ⟨(E'.eraseIdx r).length,by omega,F++[E'[r]],E'.eraseIdx r,rfl,rfl,?_,by rw[aj zi,ae],ae,(pA.dY pq).dY yv,((s4.trans s5).dY n1).dY tu⟩
   rw[List.append_assoc]
   exact (List.Perm.append_left F pw).trans jx
  ·have e':E'=[]:=by
    cases E' with
    | nil=>rfl
    | cons c r=>exact absurd (decide_eq_true (by show (0:Int)<((r.length+1:Nat):Int);omega)) e
   subst e'
   rw[List.append_nil]at jx
   exact ⟨_,rfl,q p2 F H3 tu yv kW jx kg s4⟩
theorem tD:cD P w K mg base iK 3 Fl Ot ["_law_box_here","_law_yard_here","_law_words_here"] (lb K):=by
 have fL:=i4 (P:=P) (w:=w) (base:=base) T
 have cF:=gA (P:=P) (w:=w) (base:=base) T
 have BA:=yx (P:=P) (w:=w) (base:=base) T
 refine T.Im.fn.ok du (fun vs H Q E h=>qh h) (fun dS A outer s H vs Q E hr h=>?_)
 refine ⟨_,(ag (aB (i:=3) du.nd rfl (Or.inl rfl) (bt af))
   (ag (cn PassesOwn.never rfl (eP K rfl (ay fL (hr.mono (by decide)) rfl T.tO.mg T.tO.fn.kp T.tO.bd .nil aR (aa (pv 1) af))) (aD (i:=4) du.nd rfl (Or.inr rfl)) (ag (aB (i:=5) du.nd rfl (Or.inl rfl) (bt af))
   (ag (cn PassesOwn.never rfl (mm K rfl rfl T.z_enumerate (aa (pv 2) af)) (ck (n:=2) K rfl rfl (aP (aD (i:=6) du.nd rfl (Or.inr rfl)) (aP (aD (i:=7) du.nd rfl (Or.inl rfl)) bV))) (ak (bE (bB K rfl PySem.F.plainAttrs_list PySem.F.slot_list_extend PySem.F.type_list_extend nX (pv 5) (aa (bS ["_law_i","_law_letter","_law_c","_law_band"] [none,none,some 6,some 4] (rf rfl T.z_enumerate (aa (pv 7) af)) ⟨⟨rfl,rfl,by first | exact .inl rfl | exact .inr rfl⟩,⟨⟨rfl,rfl,by first | exact .inl rfl | exact .inr rfl⟩,trivial⟩⟩ (fun _ _ _ _=>(ck (n:=2) K rfl rfl (aP (aD (i:=0) (by decide+kernel:List.Nodup (["_law_i","_law_letter","_law_c","_law_band"]:List Str)) rfl (Or.inl rfl)) (aP (aD (i:=1) (by decide+kernel:List.Nodup (["_law_i","_law_letter","_law_c","_law_band"]:List Str)) rfl (Or.inl rfl)) bV)))) (fun _ _ _ _=>(hZ (aS (kz K rfl) (pv 1) (bA (aa (pv 3) (aa (ay cF (hr.mono (by decide)) rfl T.kf.mg T.kf.fn.kp T.kf.bd .nil aR (aa (pv 3) af)) af))) (by with_unfolding_all rfl)))) (fun _ _ _ _=>(bA (aa (pv 2) (aa (pv 0) af))))) af)))))
   (ak (bE (bB K rfl PySem.F.plainAttrs_list PySem.F.slot_list_append PySem.F.type_list_append dn (pv 3) (aa (bb (br K rfl) rfl T.z_tuple boot_tuple (aa (ay BA (hr.mono (by decide)) rfl T.Il.mg T.Il.fn.kp T.Il.bd .nil aR (aa (pv 0) (aa (pv 5) af))) af)) af)))))))
   (ak (aQ (bA (aa (bb (br K rfl) rfl T.z_tuple boot_tuple (aa (pv 2) af)) (aa (bb (br K rfl) rfl T.z_tuple boot_tuple (aa (pv 3) af)) af))))))),?_⟩
 obtain ⟨b,y,wt,ws,rfl,hb,hy,hz,VN,Ci,hw,q⟩:=h
 have hs:(100000:Nat)<sizeLine:=by decide
 have zj:=hw.kX
 walk_at "wk"
 intro p1 n1
 have pq:p1≠b:=hb.ne n1
 have h1w:p1≠wt:=Ne.symm (ao Ci n1)
 refine ⟨_,rfl,y,rfl,by omega,fun p2 l2 H1 n2 kW jd jC s1=>?_⟩
 rw[eA hy.lt]at jd
 have el:=fS jd jC
 subst el
 have YD:H p2=none:=ai.free (ai.upd n1) n2
 have yv:p2≠b:=hb.ne YD
 have zi:p1≠p2:=fun z=>by rw[<-z,ae]at n2;cases n2
 have VO:ai H H1:=(ai.upd n1).trans s1
 have gS:H1 p1=some (.lst []):=s1 _ _ ae
 have zg:=cK hy
 refine ⟨p2,rfl,⟨_,aJ.of kW⟩,?_⟩
 refine jK (K:=K) (a:=p2) (xs:=bO (aq y)) (fun i σ H'=> ∃(os:List Od) (bv sv cv wv:Option V),σ=[some (.ref b),some (.str (S y)),some (.ref wt),some (.ref p1),bv,sv,cv,wv]/\H' p1=some (.lst (lG os))/\H' p2=some (.lst (bO (aq y)))/\os.length=i/\(∀o∈os,gI H' o)/\(∀(j:Nat) (o:Od) (c:Nat),os[j]? =some o->(aq y)[j]? =some c->(o.ps.map Pr.pair).Perm (cG c ws ws.length))/\bD H' b/\aI b H H')
  ⟨[],none,none,none,none,rfl,gS,kW,rfl,fun _ h=>absurd h List.not_mem_nil,fun j o c h=>by simp at h,hb.same VO,aI.of VO⟩ (fun i σ H' _ ⟨_,_,_,_,_,_,_,h,_⟩=>aJ.of h) ?_ ?_
 ·rintro i x σ H2 hx ⟨os,bv,sv,cv,wv,rfl,gS,kW,ng,v7,Iw,gQ,s2⟩
  obtain ⟨band,BB,rfl⟩:=dB hx
  have hi:i<(aq y).length:=(List.getElem?_eq_some_iff.mp BB).1
  have QO:Lt band:=hy.lt band (List.mem_filter.mp ((dq y).mem_iff.mp (List.mem_of_getElem? BB))).1
  walk_at "wk"
  intro p3 n3
  have BC:=s2 _ _ Ci VN
  refine ⟨_,rfl,wt,rfl,⟨_,aN.of ((ai.upd n3) _ _ BC)⟩,?_⟩
  refine iM (K:=K) (a:=wt) (xs:=bX ws) (fun j σ H'=> ∃(ps:List Pr) (cv wv:Option V),σ=[some (.ref b),some (.str (S y)),some (.ref wt),some (.ref p1),some (.str (S [band])),some (.ref p3),cv,wv]/\H' p3=some (.lst (de ps))/\(∀p∈ps,f_ H' p)/\ps.map Pr.pair=cG band ws j/\ps.length<=40*j/\ai H2 H')
   ⟨[],cv,wv,rfl,ae,fun _ h=>absurd h List.not_mem_nil,rfl,Nat.zero_le _,ai.upd n3⟩ (fun j σ H' _ ⟨_,_,_,_,_,_,_,_,h⟩=>aN.of (h _ _ BC)) ?_ ?_
  ·rintro j x σ H3 T BD ⟨ps,YE,YF,rfl,Fw,qG,pw,gB,s3⟩ nT
   have hj:j<ws.length:=by
    have:=(List.getElem?_eq_some_iff.mp BD).1
    rwa [bh]at this
   rw[uK hj]at BD
   cases BD
   have D4:ws[j]? =some ws[j]:=List.getElem?_eq_getElem hj
   obtain ⟨Fx,vd⟩:=hw.all _ (List.getElem_mem hj)
   generalize ws[j]=w at D4 Fx vd ⊢
   refine ⟨T,_,rfl,aN.of ae,rfl,_,_,rfl,_,_,rfl,rfl,?_⟩
   have VP:=ai.upd (o:= .tup [.int j, .str (S w)]) nT
   have Mb:=VP _ _ Fw
   refine ⟨_,rfl, .inl ⟨rfl,_,aJ.of Mb⟩,_,rfl,w,rfl,?_⟩
   refine xw (l:=w) (fun m acc H'=>ai (upd H3 T (.tup [.int j, .str (S w)])) H'/\ ∃vs:List Pr,acc=de vs/\(∀p∈vs,f_ H' p)/\vs.map Pr.pair=iu band j w m/\vs.length<=m) (by omega) ⟨ai.refl _,[],rfl,fun _ h=>absurd h List.not_mem_nil,rfl,Nat.le_refl _⟩ ?_ ?_
   ·rintro m l acc H4 T2 Nx hm eZ ⟨s4,vs,rfl,BE,OF,Mc⟩ Iy nx
    have hmw:m<w.length:=(List.getElem?_eq_some_iff.mp hm).1
    have es:=uQ (band:=band) (c:=j) hm
    rw[show uP band l=(decide (l=band)||decide (l=bL band)) from rfl]at es
    refine ⟨T2,_,rfl,aN.of ae,rfl,_,_,rfl,_,_,rfl,rfl,?_⟩
    refine ⟨⟨rfl,rfl,trivial⟩,?_⟩
    have YG:=ai.upd (o:= .tup [.int m, .str (S [l])]) Iy
    refine ⟨_,rfl,_,rfl,_,rfl,band,rfl,QO,by show 2<=sizeLine;decide,fun t nt=>?_⟩
    refine ⟨t,_,rfl, .inr (aN.of ae),rfl,rfl,_,rfl,?_⟩
    have Md:=YG.trans (ai.upd (o:= .tup [.str (S [band]), .str (S [bL band])]) nt)
    generalize upd (upd H4 T2 (.tup [.int m, .str (S [l])])) t (.tup [.str (S [band]), .str (S [bL band])])=H5 at Md ⊢
    show if qV (.str (S [l])) [.str (S [band]), .str (S [bL band])]=true then _ else _
    rw[lL]
    refine eu (fun z=>?_) (fun z=>?_)
    ·rw[if_pos z]at es
     refine ⟨_,rfl,_,rfl,by show 2<=sizeLine;decide,fun t2 JI=>?_⟩
     refine nx _ _ (by simpa using eZ) ⟨(s4.trans Md).trans (ai.upd JI),vs++[⟨t2,j,m⟩],ir vs ⟨t2,j,m⟩,fun p hp=>?_,by rw[List.map_append,OF,es];rfl,by rw[List.length_append];show vs.length+1<=_;omega⟩
     rcases List.mem_append.mp hp with g | g
     ·exact (BE p g).same (Md.trans (ai.upd JI))
     ·have e2:=List.mem_singleton.mp g
      subst e2
      exact ⟨ae,by show j<1000;omega,by show m<1000;omega⟩
    ·rw[if_neg z,List.append_nil]at es
     exact nx _ _ (Nat.le_succ_of_le eZ) ⟨s4.trans Md,vs,rfl,fun p hp=>(BE p hp).same Md,by rw[es];exact OF,by omega⟩
   ·rintro acc H4 D eZ ⟨s4,vs,rfl,BE,OF,Mc⟩ hD
    have tE:=s4 _ _ Mb
    refine ⟨p3,D,_,_,rfl,rfl,(ai.upd hD) _ _ tE,ae,by rw[bg,bg];omega,?_⟩
    rw[wg]
    have VQ:ai H3 (upd H4 D (.lst (de vs))):=(VP.trans s4).trans (ai.upd hD)
    have Me:=(ai.upd (o:= .lst (de vs)) hD) _ _ tE
    have YH:H2 p3=none:=n3
    refine ⟨ps++vs,_,_,rfl,ae,fun p hp=>?_,by rw[List.map_append,pw,OF,la D4],by rw[List.length_append];omega,fun a o ea=>by rw[aj (ao ea YH)];exact VQ _ _ (s3 a o ea)⟩
    rcases List.mem_append.mp hp with g | g
    ·exact ((qG p g).same VQ).ts (aC.ja Me)
    ·exact ((BE p g).same (ai.upd hD)).ts (aC.ja Me)
  ·rintro σ H3 ⟨ps,YE,YF,rfl,Fw,qG,pw,gB,s3⟩
   rw[bh]at pw gB
   have kg:=gQ.same s3
   have b3:p3≠b:=gQ.ne n3
   have QP:=s3 _ _ gS
   refine ⟨_,rfl, .inl ⟨rfl,_,aJ.of QP⟩,?_⟩
   refine ⟨_,rfl,_,rfl,b, .ref p3,de ps,rfl,kg, .inl ⟨p3,rfl, .inl (aJ.of Fw)⟩,by rw[bg];omega,fun qa ys H4 nq qb hq vP pA s4=>?_⟩
   obtain ⟨uR,e1,e2⟩:=uO (f:=fun p:Pr=>V.ref p.t) vP ps rfl
   have e3:ys=de uR:=e1
   subst e3
   have QQ:=aC.box kg s4
   refine ⟨qa,_,rfl, .inl ⟨aJ.of hq,fun t nt=>?_⟩⟩
   have QR:aI b H2 (upd H4 t (.tup (de uR))):=((aI.of s3).trans s4).after (ai.upd nt)
   have Iz:=QR _ _ gS pq
   have QS:aC H4 (upd H4 t (.tup (de uR))):=aC.dY nt
   refine ⟨p1,_,_,rfl,rfl,Iz,by rw[j6];omega,?_⟩
   have VR:=(QQ.trans QS).trans (aC.ja (o:= .lst (lG os++[.ref t])) Iz)
   have CY: ∀p∈uR,p∈ps:=fun p hp=>e2.mem_iff.mp hp
   have hlen:=e2.length_eq
   refine ⟨os++[⟨t,uR⟩],_,_,_,_,rfl,by rw[ae];exact congrArg (fun x=>some (HO.lst x)) (mD os ⟨t,uR⟩),by rw[aj (Ne.symm zi)];exact QR _ _ kW yv,by simp[ng],fun o ho=>?_,fun j o c hj hc=>?_,?_,?_⟩
   ·rcases List.mem_append.mp ho with g | g
    ·exact ((v7 o g).same s3).ts VR
    ·have eo:=List.mem_singleton.mp g
     subst eo
     refine ⟨?_,fun p hp=>(qG p (CY p hp)).ts VR,by show uR.length<=200;omega⟩
     exact (aC.ja (o:= .lst (lG os++[.ref t])) Iz) _ _ ae
   ·by_cases eK:j<os.length
    ·rw[List.getElem?_append_left eK]at hj
     exact Iw j o c hj hc
    ·have VS:j=os.length:=by
      have:=(List.getElem?_eq_some_iff.mp hj).1
      rw[List.length_append]at this
      have:j<os.length+1:=this
      omega
     subst VS
     rw[List.getElem?_append_right (Nat.le_refl _),Nat.sub_self]at hj
     have eo:(⟨t,uR⟩:Od)=o:=by simpa using hj
     rw[ng,BB]at hc
     have ec:band=c:=Option.some.inj hc
     subst eo
     subst ec
     exact (e2.map Pr.pair).trans (by rw[pw])
   ·exact ((pA.same (ai.upd nt)).dY pq)
   ·exact (s2.trans QR).dY n1
 ·rintro σ H2 ⟨os,bv,sv,cv,wv,rfl,gS,kW,ng,v7,Iw,gQ,s2⟩
  rw[aU]at ng
  have BC:=s2 _ _ Ci VN
  refine ⟨_,rfl,wt,_,rfl, .inr ⟨aN.of BC,?_⟩⟩
  refine ⟨_,rfl,p1,_,rfl, .inl ⟨aJ.of gS,fun t nt=>?_⟩⟩
  refine ⟨by show 2<=sizeLine;decide,fun dr BF=>?_⟩
  have D5:H t=none:=s2.none nt (gQ.ne nt)
  have sA:ai H2 (upd (upd H2 t (.tup (lG os))) dr (.tup [.ref wt, .ref t])):=(ai.upd nt).trans (ai.upd BF)
  have Mf:t≠dr:=fun z=>by rw[<-z,ae]at BF;cases BF
  refine q dr os _ ⟨⟨wt,t,ae,sA _ _ BC,by rw[aj Mf,ae]⟩,fun o ho=>(v7 o ho).same sA⟩ ⟨ng,Iw⟩ (gQ.same sA) (s2.after sA)
theorem BG:cD P w K mg base iK 2 Fh Om ["_law_box_here","_law_yard_here","_law_top"] (rR K):=by
 have ba:=fK (P:=P) (w:=w) (base:=base) T
 refine T.Ik.fn.ok Bx (fun vs H Q E h=>xN h) (fun dS A outer s H vs Q E hr h=>?_)
 refine ⟨_,(ak (aQ (bB K rfl PySem.F.plainAttrs_str PySem.F.slot_str_join PySem.F.type_str_join (mf K rfl) (bR [] (by decide+kernel)) (aa (bS ["_law_k","_law_yard_here","_law_box_here"] [none,some 1,some 0] (eh rfl T.z_range (aa (ay ba (hr.mono (by decide)) rfl T.cx.mg T.cx.fn.kp T.cx.bd .nil aR (aa (pv 0) (aa (aE bz (pv 2) ah) af))) af)) ⟨⟨rfl,rfl,by first | exact .inl rfl | exact .inr rfl⟩,⟨⟨rfl,rfl,by first | exact .inl rfl | exact .inr rfl⟩,trivial⟩⟩ (fun _ _ _ _=>(aD (i:=0) (by decide+kernel:List.Nodup (["_law_k","_law_yard_here","_law_box_here"]:List Str)) rfl (Or.inl rfl))) (fun _ _ _ _=>hV) (fun _ _ _ _=>(az nA (pv 1) (ay ba (hr.mono (by decide)) rfl T.cx.mg T.cx.fn.kp T.cx.bd .nil aR (aa (pv 2) (aa (au bJ rfl T.z_len PySem.boot_len (aa (pv 1) af)) af))) (fun _ _=>rfl)))) af)))),?_⟩
 obtain ⟨b,y,top,rfl,hb,hy,OG,ht,q⟩:=h
 have hs:(100000:Nat)<sizeLine:=by decide
 walk_at "rd"
 refine ⟨b,_,rfl,hb,by omega,by omega,fun n H1 hn vc s1=>?_⟩
 walk_at "rd"
 refine jT (fun i acc H'=>bD H' b/\aI b H H'/\ ∃l:List Nat,acc=bO l/\l.length=i/\ ∀c∈l,c∈y) (by simp;omega) ⟨vc,s1,[],rfl,rfl,by simp⟩ ?_ ?_
 ·rintro i acc H2 Nx hi hl ⟨gQ,s2,l,rfl,jd,hm⟩ nx
  have Az:0<y.length:=List.length_pos_iff.mpr hy
  refine ⟨⟨rfl,rfl,trivial⟩,fR ?_⟩
  walk_at "rd"
  refine ⟨b,_,rfl,gQ,by omega,by omega,fun r H3 OE kg s3=>?_⟩
  have Bz:r<y.length:=by omega
  refine ⟨y,_,y[r],rfl,rfl,by omega,aA (List.getElem?_eq_getElem Bz),?_⟩
  refine nx _ _ (by simpa using hl) ⟨kg,s2.trans s3,l++[y[r]],j5 _ _,by simp[jd],fun c hc=>?_⟩
  rcases List.mem_append.mp hc with z | z
  ·exact hm c z
  ·rw[List.mem_singleton.mp z];exact List.getElem_mem Bz
 ·rintro acc H2 D hl ⟨gQ,s2,l,rfl,jd,hm⟩ hD
  have D6:l.length<=top:=by simp at jd;omega
  refine ⟨D,l.map fun c=>[c],rfl,rfl,aJ.of ?_,?_,?_⟩
  ·rw[ae, <-gn]
  ·rw[Dz];omega
  ·rw[wb]
   exact q l _ hm D6 (gQ.same (ai.upd hD)) (s2.trans (aI.of (ai.upd hD)))
theorem yy:cD P w K mg base iK 3 Fm Ou ["_law_box_here","_law_yard_here"] (o_ K):=by
 have ba:=fK (P:=P) (w:=w) (base:=base) T
 have D7:=BG (P:=P) (w:=w) (base:=base) T
 refine T.Io.fn.ok fu (fun vs H Q E h=>u7 h) (fun dS A outer s H vs Q E hr h=>?_)
 refine ⟨_,(ag (aB (i:=2) fu.nd rfl (Or.inl rfl) ah)
   (ag (aB (i:=3) fu.nd rfl (Or.inl rfl) (bt af))
   (ag (cn PassesOwn.never rfl (eh rfl T.z_range (aa (ay ba (hr.mono (by decide)) rfl T.cx.mg T.cx.fn.kp T.cx.bd .nil aR (aa (pv 0) (aa ah af))) af)) (aD (i:=4) fu.nd rfl (Or.inl rfl)) (ag (aB (i:=5) fu.nd rfl (Or.inl rfl) (ay D7 (hr.mono (by decide)) rfl T.Ik.mg T.Ik.fn.kp T.Ik.bd .nil aR (aa (pv 0) (aa (pv 1) (aa (au (nP rfl) rfl T.z_min boot_min (aa (pv 2) (aa (az (aH K rfl) (bt (aa ah (aa ah (aa ah af)))) (ay ba (hr.mono (by decide)) rfl T.cx.mg T.cx.fn.kp T.cx.bd .nil aR (aa (pv 0) (aa ah af))) (fun _ _=>rfl)) af))) af)))))
   (ag (aB (i:=2) fu.nd rfl (Or.inl rfl) (aE cB (pv 2) (au bJ rfl T.z_len PySem.boot_len (aa (pv 5) af))))
   (ak (bE (bB K rfl PySem.F.plainAttrs_list PySem.F.slot_list_append PySem.F.type_list_append dn (pv 3) (aa (pv 5) af)))))))
   (ak (aQ (bb (br K rfl) rfl T.z_tuple boot_tuple (aa (pv 3) af))))))),?_⟩
 obtain ⟨b,y,rfl,hb,QT,hz,q⟩:=h
 have hs:(100000:Nat)<sizeLine:=by decide
 walk_at "wk"
 intro p1 n1
 have pq:p1≠b:=hb.ne n1
 walk_at "wk"
 refine ⟨b,5,rfl,hb.same (ai.upd n1),by decide,by decide,fun n H1 hn vc s1=>?_⟩
 walk_at "wk"
 refine fh (fun i σ H'=> ∃(ws:List (List Nat)) (lf:Nat) (kv wv:Option V),σ=[some (.ref b),some (.str (S y)),some (.int lf),some (.ref p1),kv,wv]/\H' p1=some (.lst (bX ws))/\ws.length=i/\(∀w∈ws,(∀c∈w,c∈y)/\w.length<13)/\lf<=24/\bD H' b/\aI b H H')
  ⟨[],24,none,none,rfl,s1 _ _ ae pq,rfl,fun _ h=>absurd h List.not_mem_nil,Nat.le_refl _,vc,(aI.of (ai.upd n1)).trans s1⟩ ?_ ?_
 ·rintro i σ H2 hi ⟨ws,lf,kv,wv,rfl,gS,jr,hw,YI,gQ,s2⟩
  have hi5:i<5:=by omega
  refine ⟨_,rfl,_,rfl,_,rfl,by decide,fun p2 n2=>?_⟩
  have yv:p2≠b:=gQ.ne n2
  refine ⟨_,rfl,b,3,rfl,gQ.same (ai.upd n2),by decide,by decide,fun r H3 OE kg s3=>?_⟩
  obtain ⟨v,hv,QU⟩: ∃v:Nat,m9 [V.int 3,V.int 6,V.int 12] ((r:Nat):Int)=some (V.int v)/\v<=12:=by
   have h3:r=0\/r=1\/r=2:=by omega
   rcases h3 with rfl | rfl | rfl
   ·exact ⟨3,aA (xs:=[V.int 3,V.int 6,V.int 12]) (j:=0) rfl,by decide⟩
   ·exact ⟨6,aA (xs:=[V.int 3,V.int 6,V.int 12]) (j:=1) rfl,by decide⟩
   ·exact ⟨12,aA (xs:=[V.int 3,V.int 6,V.int 12]) (j:=2) rfl,by decide⟩
  refine ⟨p2,_,_,_,rfl,rfl,aJ.of (s3 _ _ ae yv),hv,_,_,rfl,?_⟩
  obtain ⟨top,ht,JJ,QV⟩: ∃top:Nat,(if (v:Int)<(lf:Int) then (v:Int) else (lf:Int))=(top:Int)/\top<=lf/\top<=12:=by
   split
   ·exact ⟨v,rfl,by omega,QU⟩
   ·exact ⟨lf,rfl,Nat.le_refl _,by omega⟩
  rw[ht]
  refine ⟨b,y,top,rfl,kg,QT,by omega,by omega,fun w H4 YJ vd pA s4=>?_⟩
  have VT:aI b H2 H4:=((aI.of (ai.upd n2)).trans s3).trans s4
  have tE:=VT _ _ gS pq
  refine ⟨_,rfl,_,rfl,w,rfl,by omega,_,_,rfl,rfl,?_⟩
  refine ⟨_,rfl, .inl ⟨rfl,_,aJ.of tE⟩,_,rfl,p1,_,_,rfl,rfl,tE,by rw[bh];omega,?_⟩
  rw[rT]
  have YK:((lf:Int) - (w.length:Int))=((lf - w.length:Nat):Int):=by omega
  refine ⟨ws++[w],lf - w.length,_,_,by rw[<-YK];rfl,ae,by simp[jr],fun u hu=>?_,by omega,pA.dY pq,(s2.trans VT).dY n1⟩
  rcases List.mem_append.mp hu with z | z
  ·exact hw u z
  ·rw[List.mem_singleton.mp z];exact ⟨YJ,by omega⟩
 ·rintro σ H2 ⟨ws,lf,kv,wv,rfl,gS,jr,hw,YI,gQ,s2⟩
  refine ⟨_,rfl,p1,_,rfl, .inl ⟨aJ.of gS,fun t nt=>?_⟩⟩
  have D5:H t=none:=s2.none nt (gQ.ne nt)
  exact q t ws _ D5 (hb.ne D5) ae ⟨by omega,fun u hu=>⟨(hw u hu).1,by have:=(hw u hu).2;omega⟩⟩ (fun u hu=>(hw u hu).2) (gQ.dY (hb.ne D5)) (s2.dY D5)
theorem BH:cD P w K mg base iK 2 Fq Oy ["_law_box_here","_law_yard_here","_law_drawing_here"] (sW K):=by
 have ba:=fK (P:=P) (w:=w) (base:=base) T
 have fL:=i4 (P:=P) (w:=w) (base:=base) T
 have cF:=gA (P:=P) (w:=w) (base:=base) T
 refine T.Iu.fn.ok cw (fun vs H Q E h=>yl h) (fun dS A outer s H vs Q E hr h=>?_)
 refine ⟨_,(ag (fX (pv 2) (ck (n:=2) K rfl rfl (aP (aD (i:=3) cw.nd rfl (Or.inl rfl)) (aP (aD (i:=4) cw.nd rfl (Or.inr rfl)) bV))))
   (ag (aB (i:=5) cw.nd rfl (Or.inl rfl) (ay ba (hr.mono (by decide)) rfl T.cx.mg T.cx.fn.kp T.cx.bd .nil aR (aa (pv 0) (aa ah af))))
   (ag (aB (i:=6) cw.nd rfl (Or.inl rfl) (ay fL (hr.mono (by decide)) rfl T.tO.mg T.tO.fn.kp T.tO.bd .nil aR (aa (pv 1) af)))
   (ag (aB (i:=7) cw.nd rfl (Or.inl rfl) (ay ba (hr.mono (by decide)) rfl T.cx.mg T.cx.fn.kp T.cx.bd .nil aR (aa (pv 0) (aa (au (nO rfl) rfl T.z_max boot_max (aa ah (aa (au (ax K rfl) rfl T.z_len PySem.boot_len (aa (pv 3) af)) af))) af))))
   (ag (aB (i:=8) cw.nd rfl (Or.inl rfl) (bt af))
   (ag (cn PassesOwn.never rfl (mm K rfl rfl T.z_enumerate (aa (pv 3) af)) (ck (n:=2) K rfl rfl (aP (aD (i:=9) cw.nd rfl (Or.inr rfl)) (aP (aD (i:=10) cw.nd rfl (Or.inr rfl)) bV))) (ak (bE (bB K rfl PySem.F.plainAttrs_list PySem.F.slot_list_extend PySem.F.type_list_extend nX (pv 8) (aa (bS ["_law_i","_law_d","_law_word_here"] [none,some 9,some 10] (eh rfl T.z_range (aa (aE cB (au bJ rfl T.z_len PySem.boot_len (aa (pv 10) af)) ah) af)) ⟨⟨rfl,rfl,by first | exact .inl rfl | exact .inr rfl⟩,⟨⟨rfl,rfl,by first | exact .inl rfl | exact .inr rfl⟩,trivial⟩⟩ (fun _ _ _ _=>(aD (i:=0) (by decide+kernel:List.Nodup (["_law_i","_law_d","_law_word_here"]:List Str)) rfl (Or.inl rfl))) (fun _ _ _ _=>(hZ (aS h_ (az nA (pv 2) (pv 0) (fun _ _=>rfl)) (ay cF (hr.mono (by decide)) rfl T.kf.mg T.kf.fn.kp T.kf.bd .nil aR (aa (az nA (pv 2) (aE bz (pv 0) ah) (fun _ _=>rfl)) af)) (bq _)))) (fun _ _ _ _=>(bA (aa (pv 1) (aa (pv 0) af))))) af)))))
   (ag (bH (PW.pt (ki (aS uz (pv 5) ah (bq _)) (lJ (aS (zV K rfl hr) (pv 8) (bt af) (bq _))))) (ak (aQ (aE (z9 K rfl) (bA (aa (bR [111,117,116] (by decide+kernel)) af)) (az (aH K rfl) (pv 8) (ay ba (hr.mono (by decide)) rfl T.cx.mg T.cx.fn.kp T.cx.bd .nil aR (aa (pv 0) (aa (au (ax K rfl) rfl T.z_len PySem.boot_len (aa (pv 8) af)) af))) (fun _ _=>rfl))))) aY)
   (ag (bH (PW.pt (ki (aS uz (pv 5) ah (bq _)) (ki (aS lV (au (ax K rfl) rfl T.z_len PySem.boot_len (aa (pv 3) af)) ah (bq _)) (ki (aS kQ (au bJ rfl T.z_len PySem.boot_len (aa (az (aF K rfl) (pv 3) (pv 7) (fun _ _=>rfl)) af)) ah (bq _)) (lJ (aS kQ (au bJ rfl T.z_len PySem.boot_len (aa (bB K rfl PySem.F.plainAttrs_str PySem.F.slot_str_join PySem.F.type_str_join (AH K rfl) (bR [] (by decide+kernel)) (aa (pv 3) af)) af)) ah (bq _))))))) (ag (aB (i:=11) cw.nd rfl (Or.inr rfl) (az nA (pv 1) (ay ba (hr.mono (by decide)) rfl T.cx.mg T.cx.fn.kp T.cx.bd .nil aR (aa (pv 0) (aa (au bJ rfl T.z_len PySem.boot_len (aa (pv 1) af)) af))) (fun _ _=>rfl)))
   (ag (aB (i:=12) cw.nd rfl (Or.inl rfl) (az (aH K rfl) (bS ["_law_j","_law_name","_law_x"] [none,none,some 11] (fE K rfl rfl T.z_enumerate (aa (pv 6) af)) ⟨⟨rfl,rfl,by first | exact .inl rfl | exact .inr rfl⟩,trivial⟩ (fun _ _ _ _=>(ck (n:=2) K rfl rfl (aP (aD (i:=0) (by decide+kernel:List.Nodup (["_law_j","_law_name","_law_x"]:List Str)) rfl (Or.inl rfl)) (aP (aD (i:=1) (by decide+kernel:List.Nodup (["_law_j","_law_name","_law_x"]:List Str)) rfl (Or.inl rfl)) bV)))) (fun _ _ _ _=>(hZ (aS (kz K rfl) (pv 2) (bA (aa (pv 1) (aa (ay cF (hr.mono (by decide)) rfl T.kf.mg T.kf.fn.kp T.kf.bd .nil aR (aa (pv 1) af)) af))) (by with_unfolding_all rfl)))) (fun _ _ _ _=>(pv 0))) ah (fun _ _=>rfl)))
   (ak (aQ (bA (aa (bR [105,110] (by decide+kernel)) (aa (pv 7) (aa (ay ba (hr.mono (by decide)) rfl T.cx.mg T.cx.fn.kp T.cx.bd .nil aR (aa (pv 0) (aa (aE bz (au bJ rfl T.z_len PySem.boot_len (aa (az (aF K rfl) (pv 3) (pv 7) (fun _ _=>rfl)) af)) ah) af))) (aa (pv 11) (aa (ay ba (hr.mono (by decide)) rfl T.cx.mg T.cx.fn.kp T.cx.bd .nil aR (aa (pv 0) (aa (aE bz (au (ax K rfl) rfl T.z_len PySem.boot_len (aa (az (aF K rfl) (pv 4) (pv 12) (fun _ _=>rfl)) af)) ah) af))) af)))))))))) aY)
   (ag (zT (i:=13) ["_law_k","_law_orders"] [none,some 4] cw.nd rfl (Or.inl rfl) (eh rfl T.z_range (aa (au (ax K rfl) rfl T.z_len PySem.boot_len (aa (pv 6) af)) af)) ⟨⟨rfl,rfl,by first | exact .inl rfl | exact .inr rfl⟩,trivial⟩ (fun _ _ _ _=>(aD (i:=0) (by decide+kernel:List.Nodup (["_law_k","_law_orders"]:List Str)) rfl (Or.inl rfl))) (fun _ _ _ _=>(hZ (aS lV (au (ax K rfl) rfl T.z_len PySem.boot_len (aa (az (aF K rfl) (pv 1) (pv 0) (fun _ _=>rfl)) af)) ah (bq _)))) (fun _ _ _ _=>(pv 0)))
   (ag (bH (PW.pt (jc (PW.pt (ki (aS uz (pv 5) ah (bq _)) (lJ (aS lV (au (ax K rfl) rfl T.z_len PySem.boot_len (aa (pv 3) af)) ah (bq _))))) (gW (aS (zU K rfl hr) (pv 13) (bt af) (bq _))))) (ak (aQ (bA (aa (bR [116,117,114,110] (by decide+kernel)) (aa (pv 7) af))))) aY)
   (ag (aB (i:=12) cw.nd rfl (Or.inl rfl) (az (aH K rfl) (pv 13) (ay ba (hr.mono (by decide)) rfl T.cx.mg T.cx.fn.kp T.cx.bd .nil aR (aa (pv 0) (aa (au (ax K rfl) rfl T.z_len PySem.boot_len (aa (pv 13) af)) af))) (fun _ _=>rfl)))
   (ak (aQ (bA (aa (bR [115,119,97,112] (by decide+kernel)) (aa (az (aH K rfl) (pv 6) (pv 12) (fun _ _=>rfl)) (aa (ay ba (hr.mono (by decide)) rfl T.cx.mg T.cx.fn.kp T.cx.bd .nil aR (aa (pv 0) (aa (aE cB (au (ax K rfl) rfl T.z_len PySem.boot_len (aa (az (aF K rfl) (pv 4) (pv 12) (fun _ _=>rfl)) af)) ah) af))) af))))))))))))))))),?_⟩
 rcases h with h | h
 ·obtain ⟨b,y,dr,ws,os,rfl,hb,hy,Mi,hz,YL,hg,hd,q⟩:=h
  have hs:(100000:Nat)<sizeLine:=by decide
  obtain ⟨⟨wt,ot,d1,d2,d3⟩,dO⟩:=id hd
  have zj:=hg.kX
  have fz:=hg.lr
  have zg:=cK hy
  have ng:os.length=(aq y).length:=by have:=hg.ln;rwa [List.length_map]at this
  have jb:1<=ws.length:=by cases ws with | nil=>exact absurd rfl YL | cons _ _=>simp
  refine ⟨_,rfl,dr,_,rfl,aN.of d1,rfl,_,_,rfl,_,_,rfl,rfl,?_⟩
  refine ⟨_,rfl,b,4,rfl,hb,by decide,by decide,fun fm H1 VU vc s1=>?_⟩
  refine ⟨_,rfl,y,rfl,by omega,fun nm l2 H2 n2 nh jd jC s2=>?_⟩
  rw[eA hy.lt]at jd
  have el:=fS jd jC
  subst el
  have gQ:=vc.same s2
  have tF:aI b H H2:=s1.after s2
  have D8:aC H H2:=aC.box hb tF
  refine ⟨_,rfl,_,rfl,wt,_,rfl, .inr (aN.of (D8 _ _ d2)),_,_,rfl,?_⟩
  have IA:(if ((bX ws).length:Int)>1 then ((bX ws).length:Int) else 1)=((ws.length:Nat):Int):=by rw[bh];split<;>omega
  rw[IA]
  refine ⟨b,_,rfl,gQ,by omega,by omega,fun c H3 hc kg s3=>?_⟩
  have zk:=tF.trans s3
  have JK:nm≠b:=vc.ne n2
  have BI:=s3 _ _ nh JK
  walk_at "wk"
  intro p4 n4
  have b4:p4≠b:=kg.ne n4
  have yA:=(ai.upd (o:=HO.lst []) n4) _ _ BI
  have pA:=kg.same (ai.upd (o:=HO.lst []) n4)
  have qH:=zk.after (ai.upd (o:=HO.lst []) n4)
  have tE:upd H3 p4 (HO.lst []) p4=some (HO.lst []):=ae
  have VW:p4≠nm:=Ne.symm (ao BI n4)
  have VX:H p4=none:=zk.none n4 b4
  generalize upd H3 p4 (HO.lst [])=H4 at yA pA qH tE ⊢
  have zo:aC H H4:=aC.box hb qH
  have QW:=zo _ _ d2
  have YM:=zo _ _ d3
  refine ⟨_,rfl,wt,rfl,⟨_,aN.of QW⟩,?_⟩
  refine iM (K:=K) (a:=wt) (xs:=bX ws) (fun j σ H'=> ∃(ps:List Pr) (dv wv:Option V),σ=[some (.ref b),some (.str (S y)),some (.ref dr),some (.ref wt),some (.ref ot),some (.int fm),some (.ref nm),some (.int c),some (.ref p4),dv,wv,none,none,none]/\H' p4=some (.lst (de ps))/\(∀p∈ps,f_ H' p/\Fb ws p)/\ps.length<=40*j/\aI p4 H4 H')
   ⟨[],none,none,rfl,tE,fun _ h=>absurd h List.not_mem_nil,Nat.zero_le _,aI.refl _ _⟩ (fun j σ H' _ ⟨_,_,_,_,_,_,_,s⟩=>aN.of (s _ _ QW (ao d2 VX))) ?_ ?_
  ·rintro j x σ H5 T BD ⟨ps,dv,wv,rfl,tG,qG,gB,s5⟩ nT
   have hj:j<ws.length:=by
    have:=(List.getElem?_eq_some_iff.mp BD).1
    rwa [bh]at this
   rw[uK hj]at BD
   cases BD
   have D4:ws[j]? =some ws[j]:=List.getElem?_eq_getElem hj
   obtain ⟨Fx,vd⟩:=fz _ (List.getElem_mem hj)
   generalize ws[j]=w at D4 Fx vd ⊢
   have IB:w.length<=sizeLine:=by omega
   refine ⟨T,_,rfl,aN.of ae,rfl,_,_,rfl,_,_,rfl,rfl,?_⟩
   have sT:=ai.upd (o:=HO.tup [.int j, .str (S w)]) nT
   have IC:=sT _ _ tG
   generalize upd H5 T (HO.tup [.int j, .str (S w)])=H6 at sT IC ⊢
   refine ⟨_,rfl, .inl ⟨rfl,_,aJ.of IC⟩,?_⟩
   refine ⟨_,rfl,w,rfl,IB,_,_,rfl,rfl,_,rfl,by omega,by omega,?_⟩
   refine jT (fun m acc H'=>ai H6 H'/\ ∃vs:List Pr,acc=de vs/\(∀p∈vs,f_ H' p/\Fb ws p)/\vs.length<=m) (by omega) ⟨ai.refl _,[],rfl,fun _ h=>absurd h List.not_mem_nil,Nat.le_refl _⟩ ?_ ?_
   ·rintro m acc H7 Nx hm eZ ⟨s7,vs,rfl,BE,Mc⟩ nx
    have OH:m+1<w.length:=by omega
    rw[Int.zero_add]
    have g0:m9 w ((m:Nat):Int)=some w[m]:=aA (List.getElem?_eq_getElem (by omega))
    have g1:m9 w ((m:Nat)+1:Int)=some w[m+1]:=by
     have:((m:Nat):Int)+1=((m+1:Nat):Int):=by omega
     rw[this];exact aA (List.getElem?_eq_getElem OH)
    have qI:Lt w[m+1]:=hy.lt _ (Fx _ (List.getElem_mem OH))
    refine ⟨⟨rfl,rfl,trivial⟩,?_⟩
    refine ⟨_,rfl,_,rfl,w,_,_,rfl,rfl,IB,g0,_,rfl,_,rfl,_,_,rfl,rfl,w,_,_,rfl,rfl,IB,g1,_,rfl,qI,[w[m]],[bL w[m+1]],rfl,rfl,_,rfl,eu (fun z=>?_) (fun z=>?_)⟩
    ·have ez:w[m]=bL w[m+1]:=by simpa using of_decide_eq_true z
     refine ⟨_,rfl,_,rfl,by show 2<=sizeLine;decide,fun t nt=>?_⟩
     refine nx _ _ (by simpa using eZ) ⟨s7.trans (ai.upd nt),vs++[⟨t,j,m⟩],ir vs ⟨t,j,m⟩,fun p hp=>?_,by rw[List.length_append];show vs.length+1<=_;omega⟩
     rcases List.mem_append.mp hp with g | g
     ·exact ⟨(BE p g).1.same (ai.upd nt),(BE p g).2⟩
     ·have e2:=List.mem_singleton.mp g
      subst e2
      refine ⟨⟨ae,by show j<1000;omega,by show m<1000;omega⟩,hj,w[m],?_,?_⟩
      ·show (ws.getD j [])[m]? =_
       rw[aK D4];exact List.getElem?_eq_getElem (by omega)
      ·show (ws.getD j [])[m+1]? =_
       rw[aK D4,ez,cN qI];exact List.getElem?_eq_getElem OH
    ·exact nx _ _ (Nat.le_succ_of_le eZ) ⟨s7,vs,rfl,BE,by omega⟩
   ·rintro acc H7 D eZ ⟨s7,vs,rfl,BE,Mc⟩ hD
    have zp:=s7 _ _ IC
    refine ⟨p4,D,_,_,rfl,rfl,(ai.upd hD) _ _ zp,ae,by rw[bg,bg];omega,?_⟩
    rw[wg]
    have Fy:ai H5 (upd H7 D (.lst (de vs))):=(sT.trans s7).trans (ai.upd hD)
    have Mj:=(ai.upd (o:= .lst (de vs)) hD) _ _ zp
    refine ⟨ps++vs,_,_,rfl,ae,fun p hp=>?_,by rw[List.length_append];omega,fun a o ea na=>by rw[aj na];exact Fy _ _ (s5 a o ea na)⟩
    rcases List.mem_append.mp hp with g | g
    ·exact ⟨((qG p g).1.same Fy).ts (aC.ja Mj),(qG p g).2⟩
    ·exact ⟨((BE p g).1.same (ai.upd hD)).ts (aC.ja Mj),(BE p g).2⟩
  ·rintro σ H5 ⟨ps,dv,wv,rfl,tG,qG,gB,s5⟩
   rw[bh]at gB
   have ve:aI b H H5:=fun a o ea na=>s5 _ _ (qH a o ea na) (ao ea VX)
   have Fz:bD H5 b:=by obtain ⟨u,v,e⟩:=pA;exact ⟨u,v,s5 _ _ e (Ne.symm b4)⟩
   have FA:aC H H5:=aC.box hb ve
   have Ml:=s5 _ _ yA (Ne.symm VW)
   have Ii:=FA _ _ d2
   have VY:=FA _ _ d3
   have VZ: ∀o∈os,gI H5 o:=fun o ho=>(dO o ho).ts FA
   clear s5 yA pA qH tE zo QW YM BI nh zk tF D8 gQ s2 s3 kg vc s1 n2 n4
   apply DE (H5:=H5)
   ·intro key
    refine ⟨_,rfl,_,_,rfl,rfl,_,rfl,eu (fun z=>?_) (fun z=>?_)⟩
    ·refine ⟨_,rfl,Nat.zero_le _,fun p6 n6=>?_⟩
     have ly:PyData.canLayAll0 ((ps.map Pr.pair).map xU)=true:=(qk (k:=0) fun p hp=>(qG p hp).1).ly
     have dp:(PyData.list ((ps.map Pr.pair).map xU)).depth<=60:=Nat.le_trans (Nat.succ_le_succ (qk (k:=0) fun p hp=>(qG p hp).1).dp) (by decide)
     have s6:=ai.upd (o:=HO.lst []) n6
     refine ⟨.list ((ps.map Pr.pair).map xU), .list [], .lst (aJ.of (s6 _ _ tG)) (mE fun p hp=>(qG p hp).1.same s6), .lst (aJ.of ae) .nil,⟨ly,rfl⟩,dp,?_⟩
     refine ⟨_,rfl,?_⟩
     cases ps with
     | nil=>exact a_ (by rfl) (key _ s6)
     | cons p0 pt=>
      refine aT (by rfl) ?_
      refine ⟨by show 1<=sizeLine;decide,fun t1 JL=>?_⟩
      have s7:=s6.trans (ai.upd (o:=HO.tup [V.str (S [111,117,116])]) JL)
      have JJ:upd (upd H5 p6 (HO.lst [])) t1 (HO.tup [V.str (S [111,117,116])]) t1=some (HO.tup [V.str (S [111,117,116])]):=ae
      generalize upd (upd H5 p6 (HO.lst [])) t1 (HO.tup [V.str (S [111,117,116])])=H7 at s7 JJ ⊢
      have zp:=s7 _ _ tG
      have jG:(de (p0::pt)).length=pt.length+1:=by rw[bg];rfl
      refine ⟨_,rfl,_,rfl,_,rfl,p4,_,rfl, .inl (aJ.of zp),b,_,rfl,Fz.same s7,by rw[jG];omega,by rw[jG];simp at gB;omega,fun r H8 hr Mm s8=>?_⟩
      rw[jG]at hr
      have Cm:r<(p0::pt).length:=by simp;omega
      have Mn:(de (p0::pt))[r]? =some (V.ref (p0::pt)[r].t):=by unfold de;rw[List.getElem?_map,List.getElem?_eq_getElem Cm];rfl
      have jx:=qG _ (List.getElem_mem Cm)
      generalize (p0::pt)[r]=pr at Mn jx
      refine ⟨p4,_,_,_,rfl,rfl,aJ.of (s8 _ _ zp b4),aA Mn,?_⟩
      have D9:=aC.box (Fz.same s7) s8
      refine ⟨t1,pr.t,_,_,rfl,rfl,aN.of (D9 _ _ JJ),aN.of (D9 _ _ (s7 _ _ jx.1.tp)),by simp,by show 3<=sizeLine;decide,fun e=>absurd e (by simp),fun _ p np=>?_⟩
      exact q p (.out pr.c pr.i) _ ae jx.2 (((ve.after s7).trans s8).after (ai.upd np))
    ·exact pS (key _ (ai.refl _))
   ·intro H6 s6
    have JM:=ve.after s6
    have JN:=Fz.same s6
    have ID:=s6 _ _ Ii
    have V0:=s6 _ _ VY
    have V1: ∀o∈os,gI H6 o:=fun o ho=>(VZ o ho).same s6
    have Mo:=s6 _ _ Ml
    clear s6 ve Fz Ii VY VZ Ml tG qG gB FA
    have i5:c<ws.length:=by omega
    have i6:ws[c]? =some ws[c]:=List.getElem?_eq_getElem i5
    obtain ⟨Fx,vd⟩:=fz _ (List.getElem_mem i5)
    generalize ws[c]=w at i6 Fx vd
    have zq:(bX ws)[c]? =some (V.str (S w)):=by unfold bX;rw[List.getElem?_map,i6];rfl
    have YN:(ws.map List.length).sum<=160:=by
     have: ∀l:List (List Nat),(∀w∈l,w.length<=40)->(l.map List.length).sum<=40*l.length:=fun l=>by
      induction l with
      | nil=>intro _;simp
      | cons a l ih=>intro h;rw[List.map_cons,List.sum_cons,List.length_cons];have:=ih fun w hw=>h w (List.mem_cons_of_mem _ hw);have:=h a List.mem_cons_self;omega
     have:=this ws fun w hw=>(fz w hw).2
     omega
    apply DE (H5:=H6)
    ·intro key
     refine ⟨_,rfl,_,_,rfl,rfl,_,rfl,eu (fun z=>?_) (fun z=>?_)⟩
     rotate_left
     ·exact pS (key _ (ai.refl _))
     refine ⟨_,rfl,wt,_,rfl, .inr (aN.of ID),_,_,rfl,rfl,_,rfl,aT (decide_eq_true (by rw[bh];omega)) ?_⟩
     refine ⟨_,rfl,_,rfl,wt,_,_,_,rfl,rfl,aN.of ID,aA zq,w,rfl,by omega,_,_,rfl,rfl,_,rfl,eu (fun z2=>?_) (fun z2=>?_)⟩
     rotate_left
     ·exact pS (key _ (ai.refl _))
     refine ⟨rfl,_,rfl,wt,ws,rfl,rfl,aN.of ID,by omega,?_⟩
     refine ⟨_,rfl,by rw[List.length_flatten];omega,_,_,rfl,rfl,_,rfl,eu (fun z3=>?_) (fun z3=>?_)⟩
     rotate_left
     ·exact key _ (ai.refl _)
     have YO:w.length<11:=by have:=of_decide_eq_true z2;omega
     have Vn:(100:Nat)<sizeLine:=by decide
     refine ⟨_,rfl,_,rfl,_,rfl,y,rfl,by omega,b,_,rfl,JN,by omega,by omega,fun r H8 hr Mm s8=>?_⟩
     have Cm:r<y.length:=by omega
     refine ⟨y,_,_,rfl,rfl,by omega,aA (List.getElem?_eq_getElem Cm),?_⟩
     have m_:y[r]∈y:=List.getElem_mem Cm
     generalize y[r]=x at m_ ⊢
     have Mp:=s8 _ _ Mo JK
     have D9:=aC.box JN s8
     have y_:=mC hy m_
     have FC:(aq y).idxOf (PyProof.Rows.lo1 x)<(aq y).length:=List.idxOf_lt_length_of_mem y_
     have xY:=oZ hy
     refine ⟨_,rfl,nm,rfl,⟨_,aJ.of Mp⟩,?_⟩
     refine jt (K:=K) (a:=nm) (xs:=bO (aq y)) (fun i acc H'=>ai H8 H'/\acc=if (aq y).idxOf (PyProof.Rows.lo1 x)<i then [V.int ((aq y).idxOf (PyProof.Rows.lo1 x):Nat)] else []) (by rw[aU];omega) (fun i acc H' h=>aJ.of (h.1 _ _ Mp)) ⟨ai.refl _,by simp⟩ ?_ ?_
     ·rintro i v acc H9 T Nx hv eZ ⟨s9,rfl⟩ nT nx
      obtain ⟨nb,ke,rfl⟩:=dB hv
      have BJ:=List.mem_of_getElem? ke
      have nH:=j7 hy BJ
      have BK:=iA xY ke
      refine ⟨T,_,rfl,aN.of ae,rfl,_,_,rfl,_,_,rfl,rfl,?_⟩
      refine ⟨⟨rfl,trivial⟩,?_⟩
      refine ⟨_,rfl,_,rfl,_,rfl,nb,rfl, .inl nH,by show 2<=sizeLine;decide,fun t nt=>?_⟩
      refine ⟨t,_,rfl, .inr (aN.of ae),rfl,rfl,_,rfl,?_⟩
      have BL:=s9.trans ((ai.upd (o:=HO.tup [.int i, .str (S [nb])]) nT).trans (ai.upd (o:=HO.tup [.str (S [nb]), .str (S [bL nb])]) nt))
      generalize upd (upd H9 T (HO.tup [.int i, .str (S [nb])])) t (HO.tup [.str (S [nb]), .str (S [bL nb])])=D_ at BL ⊢
      show if qV (.str (S [x])) [.str (S [nb]), .str (S [bL nb])]=true then _ else _
      rw[lL]
      have E_:(decide (x=nb)||decide (x=bL nb))=decide (PyProof.Rows.lo1 x=nb):=(qj nH (hy.lt x m_)).symm
      rw[E_]
      refine eu (fun v1=>?_) (fun v1=>?_)
      ·have e1:PyProof.Rows.lo1 x=nb:=of_decide_eq_true v1
       have BM:(aq y).idxOf (PyProof.Rows.lo1 x)=i:=by rw[e1];exact BK
       refine ⟨_,rfl,nx _ _ (by simpa using eZ) ⟨BL,?_⟩⟩
       rw[BM,if_neg (Nat.lt_irrefl _),if_pos (Nat.lt_succ_self _)]
       rfl
      ·have e1: ¬PyProof.Rows.lo1 x=nb:=fun g=>v1 (decide_eq_true g)
       refine nx _ _ (Nat.le_succ_of_le eZ) ⟨BL,?_⟩
       have e2:(aq y).idxOf (PyProof.Rows.lo1 x)≠i:=fun g=>e1 (by
        have e3:=List.getElem_idxOf FC
        have e4:=(List.getElem?_eq_some_iff.mp ke).2
        rw[<-e3, <-e4]
        congr 1)
       by_cases g:(aq y).idxOf (PyProof.Rows.lo1 x)<i
       ·rw[if_pos g,if_pos (by omega)]
       ·rw[if_neg g,if_neg (by omega)]
     ·rintro acc H9 D eZ ⟨s9,rfl⟩ hD
      rw[aU,if_pos FC]
      refine ⟨D,_,_,_,rfl,rfl,aJ.of ae,aA (j:=0) rfl,?_⟩
      have OI:=s9.trans (ai.upd (o:=HO.lst [V.int ((aq y).idxOf (PyProof.Rows.lo1 x):Nat)]) hD)
      generalize upd H9 D (HO.lst [V.int ((aq y).idxOf (PyProof.Rows.lo1 x):Nat)])=D_ at OI ⊢
      have yB:aC H6 D_:=D9.trans (aC.of OI)
      have nI:=Mm.same OI
      have vf:(aq y).idxOf (PyProof.Rows.lo1 x)<os.length:=by omega
      have pB:os[(aq y).idxOf (PyProof.Rows.lo1 x)]? =some os[(aq y).idxOf (PyProof.Rows.lo1 x)]:=List.getElem?_eq_getElem vf
      have dU:=List.getElem_mem vf
      generalize os[(aq y).idxOf (PyProof.Rows.lo1 x)]=o at pB dU
      refine ⟨_,rfl,_,rfl,_,rfl,_,rfl,wt,_,_,_,rfl,rfl,aN.of (yB _ _ ID),aA zq,w,rfl,by omega,_,_,rfl,rfl,b,_,rfl,nI,by omega,by omega,fun r1 QX hr1 vg wK=>?_⟩
      have BN:=yB.trans (aC.box nI wK)
      have ok:=(V1 o dU).ts BN
      have hlen:=hg.len o dU
      refine ⟨_,rfl,_,rfl,_,rfl,_,rfl,ot,_,_,_,rfl,rfl,aN.of (BN _ _ V0),aA (kF pB),o.o,_,rfl, .inr (aN.of ok.tp),_,_,rfl,rfl,b,_,rfl,vg,by omega,by rw[bg];omega,fun r2 Mq Mr QY BO=>?_⟩
      rw[bg]at Mr
      refine ⟨by show 5<=sizeLine;decide,fun p np=>?_⟩
      refine q p (.ins c r1 x r2) _ ae ⟨i5,?_,?_,m_,?_⟩ (((((JM.trans s8).after OI).trans wK).trans BO).after (ai.upd np))
      ·rw[aK i6];omega
      ·rw[aK i6];omega
      ·rw[aK (show (os.map bw)[(aq y).idxOf (PyProof.Rows.lo1 x)]? =some (bw o) by rw[List.getElem?_map,pB];rfl)]
       unfold bw
       rw[List.length_map]
       omega
    ·intro H7 s7
     have Ea:=s7 _ _ Mo
     have OJ:=s7 _ _ V0
     have Ms:=JN.same s7
     have IE:=JM.after s7
     have OK: ∀o∈os,gI H7 o:=fun o ho=>(V1 o ho).same s7
     have xY:=oZ hy
     have turn: ∀(H8:Hp) (p:Addr),aI b H H8->H8 p=none->Q (.ref p) (upd H8 p (.tup [V.str (S [116,117,114,110]),V.int (c:Nat)])):=fun H8 p s8 np=>q p (.turn c) _ ae i5 (s8.after (ai.upd np))
     refine ⟨_,rfl,nm,_,rfl, .inl (aJ.of Ea),_,rfl,?_⟩
     rw[aU]
     refine ⟨by omega,by omega,?_⟩
     refine jT (fun i acc H'=>H'=H7/\ ∃ks:List Nat,acc=fH ks/\(∀k∈ks, ∃o,os[k]? =some o/\1<o.ps.length)/\ks.length<=i) (by omega) ⟨rfl,[],rfl,fun _ h=>absurd h List.not_mem_nil,Nat.le_refl _⟩ ?_ ?_
     ·rintro i acc H8 Nx hi eZ ⟨rfl,ks,rfl,OL,JO⟩ nx
      have vf:i<os.length:=by omega
      have pB:os[i]? =some os[i]:=List.getElem?_eq_getElem vf
      have dU:=List.getElem_mem vf
      generalize os[i]=o at pB dU
      rw[Int.zero_add]
      refine ⟨⟨rfl,trivial⟩,?_⟩
      refine ⟨_,rfl,_,rfl,ot,_,_,_,rfl,rfl,aN.of OJ,aA (kF pB),o.o,_,rfl, .inr (aN.of (OK o dU).tp),_,_,rfl,rfl,_,rfl,eu (fun v=>?_) (fun v=>?_)⟩
      ·have v1:(1:Int)<((de o.ps).length:Int):=of_decide_eq_true v
       rw[bg]at v1
       refine ⟨_,rfl,nx _ _ (by simpa using eZ) ⟨rfl,ks++[i],by unfold fH;rw[List.map_append];rfl,fun k hk=>?_,by rw[List.length_append];show ks.length+1<=_;omega⟩⟩
       rcases List.mem_append.mp hk with g | g
       ·exact OL k g
       ·rw[List.mem_singleton.mp g];exact ⟨o,pB,by omega⟩
      ·exact nx _ _ (Nat.le_succ_of_le eZ) ⟨rfl,ks,rfl,OL,by omega⟩
     ·rintro acc H8 D eZ ⟨rfl,ks,rfl,OL,JO⟩ hD
      have sD:=ai.upd (o:=HO.lst (fH ks)) hD
      have IF:upd H8 D (HO.lst (fH ks)) D=some (HO.lst (fH ks)):=ae
      generalize upd H8 D (HO.lst (fH ks))=H9 at sD IF ⊢
      have V2:=IE.after sD
      have Mt:=Ms.same sD
      refine ⟨_,rfl,_,_,rfl,rfl,_,rfl,eu (fun z=>?_) (fun z=>?_)⟩
      ·refine ⟨_,rfl,wt,_,rfl, .inr (aN.of (sD _ _ (s7 _ _ ID))),_,_,rfl,rfl,_,rfl,aT (decide_eq_true (by rw[bh];omega)) (aT rfl ?_)⟩
       exact ⟨_,rfl,by show 2<=sizeLine;decide,fun p np=>turn _ _ V2 np⟩
      ·refine pS ⟨_,rfl,Nat.zero_le _,fun p6 n6=>?_⟩
       have s6:=ai.upd (o:=HO.lst []) n6
       refine ⟨.list (ids ks), .list [], .lst (aJ.of (s6 _ _ IF)) (kE ks), .lst (aJ.of ae) .nil,⟨lay_ints ks,rfl⟩,by show PyData.depthAll (ids ks)+1<=60;rw[mB];decide,?_⟩
       have IG:=s6 _ _ IF
       have vh:=V2.after s6
       have IH:=sD.trans s6
       have nI:=Mt.same s6
       generalize upd H9 p6 (HO.lst [])=D_ at s6 IG vh IH nI ⊢
       refine ⟨_,rfl,?_⟩
       cases ks with
       | nil=>exact aT (by rfl) ⟨_,rfl,by show 2<=sizeLine;decide,fun p np=>turn _ _ vh np⟩
       | cons k0 kt=>
        refine a_ (by rfl) ?_
        have jG:(fH (k0::kt)).length=kt.length+1:=by unfold fH;simp
        refine ⟨_,rfl,_,rfl,_,rfl,D,_,rfl, .inl (aJ.of IG),b,_,rfl,nI,by rw[jG];omega,by rw[jG];simp at JO;omega,fun r QX hr vg wK=>?_⟩
        rw[jG]at hr
        have Cm:r<(k0::kt).length:=by simp;omega
        have Mn:(fH (k0::kt))[r]? =some (V.int ((k0::kt)[r]:Nat)):=by unfold fH;rw[List.getElem?_map,List.getElem?_eq_getElem Cm];rfl
        obtain ⟨o,aX,y8⟩:=OL _ (List.getElem_mem Cm)
        generalize (k0::kt)[r]=k at Mn aX
        have YQ:D≠b:=Ms.ne hD
        refine ⟨D,_,_,_,rfl,rfl,aJ.of (wK _ _ IG YQ),aA Mn,?_⟩
        have V3:k<(aq y).length:=by have:=(List.getElem?_eq_some_iff.mp aX).1;omega
        have QZ:(aq y)[k]? =some (aq y)[k]:=List.getElem?_eq_getElem V3
        have V4:=List.getElem_mem V3
        generalize (aq y)[k]=nb at QZ V4
        have Oe:(bO (aq y))[k]? =some (V.str (S [nb])):=by unfold bO;rw[List.getElem?_map,QZ];rfl
        have dU:=List.mem_of_getElem? aX
        have BN:=(aC.of IH).trans (aC.box nI wK)
        have ok:=(OK o dU).ts BN
        have hlen:=hg.len o dU
        refine ⟨_,rfl,_,rfl,nm,_,_,_,rfl,rfl,aJ.of (wK _ _ (IH _ _ Ea) JK),aA Oe,?_⟩
        refine ⟨_,rfl,_,rfl,_,rfl,ot,_,_,_,rfl,rfl,aN.of (BN _ _ OJ),aA (kF aX),o.o,_,rfl, .inr (aN.of ok.tp),_,_,rfl,rfl,b,_,rfl,vg,by rw[bg];omega,by rw[bg];omega,fun r2 Mq Mr QY BO=>?_⟩
        rw[bg]at Mr
        refine ⟨by show 3<=sizeLine;decide,fun p np=>?_⟩
        refine q p (.swap nb r2) _ ae ⟨V4,?_⟩ (((vh.trans wK).trans BO).after (ai.upd np))
        rw[iA xY QZ,aK (show (os.map bw)[k]? =some (bw o) by rw[List.getElem?_map,aX];rfl)]
        unfold bw
        rw[List.length_map]
        omega
 ·obtain ⟨b,y,dr,os,rfl,hb,hy,Mi,hz,hg,hd,q⟩:=h
  have hs:(100000:Nat)<sizeLine:=by decide
  obtain ⟨⟨wt,ot,d1,d2,d3⟩,dO⟩:=id hd
  have Q0:=Bl hg
  have zg:=cK hy
  have ng:os.length=(aq y).length:=by have:=hg.ln;rwa [List.length_map]at this
  refine ⟨_,rfl,dr,_,rfl,aN.of d1,rfl,_,_,rfl,_,_,rfl,rfl,?_⟩
  refine ⟨_,rfl,b,4,rfl,hb,by decide,by decide,fun fm H1 VU vc s1=>?_⟩
  refine ⟨_,rfl,y,rfl,by omega,fun nm l2 H2 n2 nh jd jC s2=>?_⟩
  rw[eA hy.lt]at jd
  have el:=fS jd jC
  subst el
  have gQ:=vc.same s2
  have tF:aI b H H2:=s1.after s2
  have D8:aC H H2:=aC.box hb tF
  refine ⟨_,rfl,_,rfl,wt,_,rfl, .inr (aN.of (D8 _ _ d2)),_,_,rfl,?_⟩
  have IA:(if ((bX []).length:Int)>1 then ((bX []).length:Int) else 1)=((1:Nat):Int):=rfl
  rw[IA]
  refine ⟨b,_,rfl,gQ,by omega,by omega,fun c H3 hc kg s3=>?_⟩
  have Mu:c=0:=by omega
  subst Mu
  have zk:=tF.trans s3
  have JK:nm≠b:=vc.ne n2
  have BI:=s3 _ _ nh JK
  walk_at "wk"
  intro p4 n4
  have b4:p4≠b:=kg.ne n4
  have yA:=(ai.upd (o:=HO.lst []) n4) _ _ BI
  have pA:=kg.same (ai.upd (o:=HO.lst []) n4)
  have qH:=zk.after (ai.upd (o:=HO.lst []) n4)
  have tE:upd H3 p4 (HO.lst []) p4=some (HO.lst []):=ae
  generalize upd H3 p4 (HO.lst [])=H4 at yA pA qH tE ⊢
  have zo:aC H H4:=aC.box hb qH
  have DS:=zo _ _ d2
  have YR:=zo _ _ d3
  have YS: ∀o∈os,gI H4 o:=fun o ho=>(dO o ho).ts zo
  refine ⟨_,rfl,wt,rfl,⟨_,aN.of DS⟩,?_⟩
  refine iM (K:=K) (a:=wt) (xs:=bX []) (fun j σ H'=>σ=[some (.ref b),some (.str (S y)),some (.ref dr),some (.ref wt),some (.ref ot),some (.int fm),some (.ref nm),some (.int 0),some (.ref p4),none,none,none,none,none]/\H'=H4)
   ⟨rfl,rfl⟩ (fun j σ H' _ ⟨_,e⟩=>by subst e;exact aN.of DS) ?_ ?_
  ·rintro j x σ H5 T BD _ _
   cases BD
  ·rintro σ H5 ⟨rfl,rfl⟩
   have go: ∀(H8:Hp) (p:Addr),ai H5 H8->H8 p=none->Q (.ref p) (upd H8 p (.tup [V.str (S [116,117,114,110]),V.int 0])):=fun H8 p s8 np=>q p _ ae ((qH.after s8).after (ai.upd np))
   apply DE (H5:=H5)
   ·intro key
    refine ⟨_,rfl,_,_,rfl,rfl,_,rfl,eu (fun z=>?_) (fun z=>?_)⟩
    ·refine ⟨_,rfl,Nat.zero_le _,fun p6 n6=>?_⟩
     have s6:=ai.upd (o:=HO.lst []) n6
     refine ⟨.list [], .list [], .lst (aJ.of (s6 _ _ tE)) .nil, .lst (aJ.of ae) .nil,⟨rfl,rfl⟩,by decide,?_⟩
     exact ⟨_,rfl,a_ (by rfl) (key _ s6)⟩
    ·exact pS (key _ (ai.refl _))
   ·intro H6 s6
    have ID:=s6 _ _ DS
    apply DE (H5:=H6)
    ·intro key
     refine ⟨_,rfl,_,_,rfl,rfl,_,rfl,eu (fun z=>?_) (fun z=>?_)⟩
     rotate_left
     ·exact pS (key _ (ai.refl _))
     exact ⟨_,rfl,wt,_,rfl, .inr (aN.of ID),_,_,rfl,rfl,_,rfl,a_ (decide_eq_false (by show ¬(0:Int)<0;omega)) (pS (key _ (ai.refl _)))⟩
    ·intro H7 Cn
     have s7:=s6.trans Cn
     have Ea:=s7 _ _ yA
     have OJ:=s7 _ _ YR
     have YT:=s7 _ _ DS
     have OK: ∀o∈os,gI H7 o:=fun o ho=>(YS o ho).same s7
     refine ⟨_,rfl,nm,_,rfl, .inl (aJ.of Ea),_,rfl,?_⟩
     rw[aU]
     refine ⟨by omega,by omega,?_⟩
     refine jT (fun i acc H'=>H'=H7/\acc=[]) (by omega) ⟨rfl,rfl⟩ ?_ ?_
     ·rintro i acc H8 Nx hi eZ ⟨rfl,rfl⟩ nx
      have vf:i<os.length:=by omega
      have pB:os[i]? =some os[i]:=List.getElem?_eq_getElem vf
      have dU:=List.getElem_mem vf
      generalize os[i]=o at pB dU
      rw[Int.zero_add]
      refine ⟨⟨rfl,trivial⟩,?_⟩
      refine ⟨_,rfl,_,rfl,ot,_,_,_,rfl,rfl,aN.of OJ,aA (kF pB),o.o,_,rfl, .inr (aN.of (OK o dU).tp),_,_,rfl,rfl,_,rfl,a_ (decide_eq_false (by rw[bg,Q0 o dU];show ¬(1:Int)<0;omega)) ?_⟩
      exact nx _ _ (Nat.le_succ_of_le eZ) ⟨rfl,rfl⟩
     ·rintro acc H8 D eZ ⟨rfl,rfl⟩ hD
      have sD:=ai.upd (o:=HO.lst []) hD
      have IF:upd H8 D (HO.lst []) D=some (HO.lst []):=ae
      generalize upd H8 D (HO.lst [])=H9 at sD IF ⊢
      have s9:=s7.trans sD
      refine ⟨_,rfl,_,_,rfl,rfl,_,rfl,eu (fun z=>?_) (fun z=>?_)⟩
      ·refine ⟨_,rfl,wt,_,rfl, .inr (aN.of (sD _ _ YT)),_,_,rfl,rfl,_,rfl,a_ (decide_eq_false (by show ¬(0:Int)<0;omega)) ?_⟩
       refine ⟨_,rfl,Nat.zero_le _,fun p6 n6=>?_⟩
       have Mv:=ai.upd (o:=HO.lst []) n6
       refine ⟨.list [], .list [], .lst (aJ.of (Mv _ _ IF)) .nil, .lst (aJ.of ae) .nil,⟨rfl,rfl⟩,by decide,?_⟩
       exact ⟨_,rfl,aT (by rfl) ⟨_,rfl,by show 2<=sizeLine;decide,fun p np=>go _ _ (s9.trans Mv) np⟩⟩
      ·refine pS ⟨_,rfl,Nat.zero_le _,fun p6 n6=>?_⟩
       have Mv:=ai.upd (o:=HO.lst []) n6
       refine ⟨.list [], .list [], .lst (aJ.of (Mv _ _ IF)) .nil, .lst (aJ.of ae) .nil,⟨rfl,rfl⟩,by decide,?_⟩
       exact ⟨_,rfl,aT (by rfl) ⟨_,rfl,by show 2<=sizeLine;decide,fun p np=>go _ _ (s9.trans Mv) np⟩⟩
theorem vi:cD P w K mg base iK 1 Fn Ov ["_law_drawing_here"] (mR K):=by
 refine T.Ip.fn.ok dh (fun vs H Q E h=>sk h) (fun dS A outer s H vs Q E hr h=>?_)
 refine ⟨_,(ag (aB (i:=1) dh.nd rfl (Or.inr rfl) Ac)
   (ag (aB (i:=2) dh.nd rfl (Or.inl rfl) (bt af))
   (ag (cn PassesOwn.never rfl (mm K rfl rfl T.z_enumerate (aa (az (aF K rfl) (pv 0) ah (fun _ _=>rfl)) af)) (ck (n:=2) K rfl rfl (aP (aD (i:=3) dh.nd rfl (Or.inl rfl)) (aP (aD (i:=4) dh.nd rfl (Or.inl rfl)) bV))) (ag (bE (bB K rfl PySem.F.plainAttrs_list PySem.F.slot_list_append PySem.F.type_list_append dn (pv 2) (aa (bt af) af)))
   (ak (cn PassesOwn.never rfl (rf rfl T.z_enumerate (aa (pv 4) af)) (ck (n:=2) K rfl rfl (aP (aD (i:=5) dh.nd rfl (Or.inl rfl)) (aP (aD (i:=6) dh.nd rfl (Or.inl rfl)) bV))) (ag (jZ (cH hr) (pv 1) (bA (aa (pv 3) (aa (pv 5) af))) (au oB rfl T.z_len PySem.boot_len (aa (pv 1) af)) rfl)
   (ak (bE (bB K rfl PySem.F.plainAttrs_list PySem.F.slot_list_append PySem.F.type_list_append dn (az (aH K rfl) (pv 2) (pv 3) (fun _ _=>rfl)) (aa (bt (aa (pv 6) (aa (bW (cH hr) (pv 1) (bA (aa (pv 3) (aa (pv 5) af))) (fun _ _=>rfl)) af))) af)))))))))
   (ak (aQ (C5 (mq (bR [119,111,114,100,115] (by decide+kernel)) (pv 2) (mq (bR [111,114,100,101,114,115] (by decide+kernel)) (bS ["_law_order_here","_law_number"] [none,some 1] (vK K rfl (az (aF K rfl) (pv 0) ah (fun _ _=>rfl))) ⟨⟨rfl,rfl,by first | exact .inl rfl | exact .inr rfl⟩,trivial⟩ (fun _ _ _ _=>(aD (i:=0) (by decide+kernel:List.Nodup (["_law_order_here","_law_number"]:List Str)) rfl (Or.inl rfl))) (fun _ _ _ _=>hV) (fun _ _ _ _=>(bS ["_law_one","_law_number"] [none,some 1] (vK K rfl (pv 0)) ⟨⟨rfl,rfl,by first | exact .inl rfl | exact .inr rfl⟩,trivial⟩ (fun _ _ _ _=>(aD (i:=0) (by decide+kernel:List.Nodup (["_law_one","_law_number"]:List Str)) rfl (Or.inl rfl))) (fun _ _ _ _=>hV) (fun _ _ _ _=>(bW (cH hr) (pv 1) (pv 0) (fun _ _=>rfl)))))) (mq (bR [109,97,110,121] (by decide+kernel)) (au oB rfl T.z_len PySem.boot_len (aa (pv 1) af)) C4))) rfl rfl (by simp) (by decide))))))),?_⟩
 obtain ⟨y,dr,ws,os,rfl,hy,Q1,hg,hd,q⟩:=h
 have hs:(100000:Nat)<sizeLine:=by decide
 obtain ⟨⟨wt,ot,d1,d2,d3⟩,dO⟩:=id hd
 have zj:=hg.kX
 have fz:=hg.lr
 walk_at "wk"
 intro d nd
 have sd:=ai.upd (o:=HO.dT []) nd
 have Mw:upd H d (HO.dT []) d=some (HO.dT []):=ae
 generalize upd H d (HO.dT [])=H1 at sd Mw ⊢
 walk_at "wk"
 intro wl Eb
 have n0:H wl=none:=ai.free sd Eb
 have s1:=sd.trans (ai.upd (o:=HO.lst []) Eb)
 have V5:=(ai.upd (o:=HO.lst []) Eb) _ _ Mw
 have Mx:iD (upd H1 wl (HO.lst [])) wl []:=⟨ae,fun c h=>absurd h List.not_mem_nil,fun c h=>absurd h List.not_mem_nil,by simp,fun c h=>absurd h List.not_mem_nil⟩
 have gR:d≠wl:=fun z=>by rw[z]at Mw;rw[Mw]at Eb;cases Eb
 generalize upd H1 wl (HO.lst [])=H2 at s1 V5 Mx ⊢
 clear sd Mw Eb
 refine ⟨_,rfl,dr,_,0,_,rfl,rfl,aN.of (s1 _ _ d1),rfl,?_⟩
 refine ⟨wt,rfl,⟨_,aN.of (s1 _ _ d2)⟩,?_⟩
 refine iM (K:=K) (a:=wt) (xs:=bX ws) (fun j σ H'=> ∃(Ws:List Wc) (kvs:List (List Key×V)) (m:Nat) (cv wv iv lv:Option V),σ=[some (.ref dr),some (.ref d),some (.ref wl),cv,wv,iv,lv]/\H' d=some (.dT kvs)/\iD H' wl Ws/\j9 (oW Ws) kvs m/\lets (oW Ws)=ws.take j/\m<=40*j/\(∀c∈Ws,H c.a=none)/\ai H H')
  ⟨[],[],0,none,none,none,none,rfl,V5,Mx,⟨rfl,rfl,fun n p ⟨_,_,h,_⟩=>by simp[oW]at h,fun p _=>rfl⟩,rfl,Nat.zero_le _,fun c h=>absurd h List.not_mem_nil,s1⟩ (fun j σ H' _ ⟨_,_,_,_,_,_,_,_,_,_,_,_,_,_,h⟩=>aN.of (h _ _ d2)) ?_ ?_
 ·rintro j x σ H3 T hx ⟨Ws,kvs,m,cv,wv,iv,lv,rfl,Co,BP,JP,D6,V6,Q2,s3⟩ nT
  have hj:j<ws.length:=by
   have:=(List.getElem?_eq_some_iff.mp hx).1
   rwa [bh]at this
  rw[uK hj]at hx
  cases hx
  have D4:ws[j]? =some ws[j]:=List.getElem?_eq_getElem hj
  obtain ⟨Fx,vd⟩:=fz _ (List.getElem_mem hj)
  generalize ws[j]=w at D4 Fx vd ⊢
  have pE:Ws.length=j:=by
   have:=congrArg List.length D6
   rw[bU,mT,List.length_take]at this
   omega
  refine ⟨T,_,rfl,aN.of ae,rfl,_,_,rfl,_,_,rfl,rfl,?_⟩
  have sT:=ai.upd (o:=HO.tup [.int j, .str (S w)]) nT
  have lP:=sT _ _ Co
  have kP:=BP.same sT
  have s4:=s3.trans sT
  generalize upd H3 T (HO.tup [.int j, .str (S w)])=H4 at lP kP s4 ⊢
  clear sT nT Co BP s3
  refine ⟨_,rfl, .inl ⟨rfl,_,aJ.of kP.wd⟩,Nat.zero_le _,fun t nt=>?_⟩
  have Mz:=kP.new nt
  have D5:H t=none:=ai.free s4 nt
  refine ⟨wl,_,_,rfl,rfl,(ai.upd (o:=HO.lst []) nt) _ _ kP.wd,by rw[cO];omega,?_⟩
  rw[show iC Ws++[V.ref t]=iC (Ws++[⟨t,[]⟩]) from A1 Ws ⟨t,[]⟩]
  have BQ:upd (upd H4 t (HO.lst [])) wl (HO.lst (iC (Ws++[⟨t,[]⟩]))) d=some (HO.dT kvs):=by rw[aj gR];exact (ai.upd nt) _ _ lP
  have s5:ai H (upd (upd H4 t (HO.lst [])) wl (HO.lst (iC (Ws++[⟨t,[]⟩])))):=fJ (fJ s4 D5) n0
  generalize upd (upd H4 t (HO.lst [])) wl (HO.lst (iC (Ws++[⟨t,[]⟩])))=H5 at BQ Mz s5 ⊢
  clear lP kP s4 nt
  have YU:=JP.new
  refine ⟨_,rfl,w,rfl,?_⟩
  refine zX (l:=w) (fun k σ H'=> ∃(ls:List Lc) (kvs:List (List Key×V)) (m:Nat) (iv lv:Option V),σ=[some (.ref dr),some (.ref d),some (.ref wl),some (.int j),some (.str (S w)),iv,lv]/\H' d=some (.dT kvs)/\iD H' wl (Ws++[⟨t,ls⟩])/\j9 (oW Ws++[(⟨t,ls⟩:Wc).w]) kvs m/\ls.map Lc.x=w.take k/\m<=40*j+k/\ai H H')
   ⟨[],kvs,m,iv,lv,rfl,BQ,Mz,YU,rfl,by omega,s5⟩ ?_ ?_
  ·rintro k l σ H6 T2 hk ⟨ls,qz,m6,YV,YW,rfl,BR,lH,OM,ON,YX,s6⟩ Iy
   have hkw:k<w.length:=(List.getElem?_eq_some_iff.mp hk).1
   have GN:ls.length=k:=by
    have:=congrArg List.length ON
    rw[List.length_map,List.length_take]at this
    omega
   refine ⟨T2,_,rfl,aN.of ae,rfl,_,_,rfl,_,_,rfl,rfl,?_⟩
   have sT:=ai.upd (o:=HO.tup [.int k, .str (S [l])]) Iy
   have MA:=sT _ _ BR
   have II:=lH.same sT
   have s7:=s6.trans sT
   generalize upd H6 T2 (HO.tup [.int k, .str (S [l])])=H7 at MA II s7 ⊢
   clear sT Iy BR lH s6
   have YY:qz.length=m6:=OM.kl
   have YZ:(oW Ws).length=j:=by rw[mT];exact pE
   have ze:(⟨t,ls⟩:Wc).w.length=k:=by rw[Wc.L0];exact GN
   obtain ⟨o7,V7⟩:=OM.push (x:=l)
   rw[YZ,ze]at o7 V7
   refine ⟨_,rfl,d,qz,rfl,MA,?_⟩
   rw[YY]
   refine ⟨_,rfl,_,rfl,_,rfl,by show 2<=sizeLine;decide,fun t1 JL=>?_⟩
   have mj:=ai.upd (o:=HO.tup [V.int j,V.int k]) JL
   refine ⟨d,_,rfl,mn.t (k:=gJ (j,k)) (mj _ _ MA) ae (by omega),?_⟩
   have yC:=(II.same mj).dict (k':=putK qz (gJ (j,k)) (.int (m6:Nat))) (mj _ _ MA)
   have s8:ai H (upd (upd H7 t1 (HO.tup [V.int j,V.int k])) d (.dT (putK qz (gJ (j,k)) (.int (m6:Nat))))):=fJ (s7.trans mj) nd
   have wL:upd (upd H7 t1 (HO.tup [V.int j,V.int k])) d (.dT (putK qz (gJ (j,k)) (.int (m6:Nat)))) d=_:=ae
   generalize upd (upd H7 t1 (HO.tup [V.int j,V.int k])) d (.dT (putK qz (gJ (j,k)) (.int (m6:Nat))))=H8 at wL yC s8 ⊢
   clear mj JL MA II s7
   have Q3:(⟨t,ls⟩:Wc)∈Ws++[(⟨t,ls⟩:Wc)]:=List.mem_append.mpr (.inr (List.mem_singleton.mpr rfl))
   have Y0:(iC (Ws++[⟨t,ls⟩]))[j]? =some (V.ref t):=by
    unfold iC
    rw[List.map_append,List.getElem?_append_right (by rw[List.length_map];omega),List.length_map,pE,Nat.sub_self]
    rfl
   refine ⟨_,rfl,_,rfl,wl,_,_,_,rfl,rfl,aJ.of yC.wd,aA Y0,?_⟩
   refine ⟨.inl ⟨rfl,_,aJ.of (yC.wc _ Q3)⟩,?_⟩
   refine ⟨_,rfl,_,rfl,_,rfl,_,rfl,by show 2<=sizeLine;decide,fun t2 JI=>?_⟩
   have iJ:=ai.upd (o:=HO.tup [V.int j,V.int k]) JI
   have ev:cf (putK qz (gJ (j,k)) (.int (m6:Nat))) (gJ (j,k))=some (.int (m6:Nat)):=by rw[jY,if_pos rfl]
   refine ⟨d,_,rfl,by rw[<-ev];exact cj.t (k:=gJ (j,k)) (iJ _ _ wL) ae,by show 2<=sizeLine;decide,fun p np=>?_⟩
   have Q4:=(yC.same iJ).push (x:=l) (n:=m6) np
   have y0:=iJ.trans (ai.upd (o:=HO.lst [V.str (S [l]),V.int (m6:Nat)]) np)
   refine ⟨t,cT ls,_,rfl,rfl,y0 _ _ (yC.wc _ Q3),by rw[cJ,GN];omega,?_⟩
   rw[show cT ls++[V.ref p]=cT (ls++[⟨p,l,m6⟩]) from A2 ls ⟨p,l,m6⟩]
   refine ⟨ls++[⟨p,l,m6⟩],_,m6+1,_,_,rfl,?_,Q4,by rw[Wc.HU];exact V7,?_,by omega,fJ (s8.trans y0) D5⟩
   ·rw[aj fun z=>by have:=yC.wc _ Q3;rw[show (⟨t,ls⟩:Wc).a=d from z.symm,wL]at this;cases this]
    exact y0 _ _ wL
   ·rw[List.map_append,ON,List.take_succ,hk];rfl
  ·rintro σ H6 ⟨ls,qz,m6,YV,YW,rfl,BR,lH,OM,ON,YX,s6⟩
   refine ⟨Ws++[⟨t,ls⟩],qz,m6,_,_,_,_,rfl,BR,lH,by rw[A3];exact OM,?_,by omega,fun c hc=>?_,s6⟩
   ·rw[A3,A4,D6,Wc.L3,ON,List.take_length,List.take_succ,D4];rfl
   ·rcases List.mem_append.mp hc with g | g
    ·exact Q2 c g
    ·rw[List.mem_singleton.mp g];exact D5
 ·rintro σ H3 ⟨Ws,kvs,m,cv,wv,iv,lv,rfl,Co,BP,JP,D6,V6,Q2,s3⟩
  rw[bh,List.take_length]at D6
  rw[bh]at V6
  intro pd MB
  have OO:=ai.upd (o:=HO.dK []) MB
  have V8:upd H3 pd (HO.dK []) pd=some (HO.dK []):=ae
  have lP:=OO _ _ Co
  have kP:=BP.same OO
  have s4:=s3.trans OO
  have MC:H pd=none:=ai.free s3 MB
  generalize upd H3 pd (HO.dK [])=H4 at V8 lP kP s4 ⊢
  clear OO MB Co BP s3
  refine ⟨_,rfl,?_⟩
  refine ⟨_,rfl,dr,_,1,_,rfl,rfl,aN.of (s4 _ _ d1),rfl,?_⟩
  have ng:os.length=(os.map bw).length:=by rw[List.length_map]
  have zg:os.length<=4:=by have:=cK hy;have:=hg.lk.1;rw[List.length_map]at this;omega
  have own:Own (oW Ws):=qu (by rw[JP.nm];exact List.nodup_range)
  refine ⟨ot,rfl,⟨_,aN.of (s4 _ _ d3)⟩,?_⟩
  refine rh (K:=K) (a:=ot) (xs:=lG os) (fun i acc H'=> ∃Os:List Oc,acc=gC Os/\Os.length=i/\A6 H4 H' (oW Ws) (os.map bw) Os/\ai H4 H') (by rw[j6];omega) (fun i acc H' ⟨_,_,_,_,s⟩=>aN.of (s _ _ (s4 _ _ d3))) ⟨[],rfl,rfl,⟨fun _ h=>absurd h List.not_mem_nil,fun j o l h=>by simp at h,List.nodup_nil,fun _ h=>absurd h List.not_mem_nil⟩,ai.refl _⟩ ?_ ?_
  ·rintro i x acc H5 Nx hi hx eZ ⟨Os,rfl,BS,ni,s5⟩ nx
   obtain ⟨o,ho,rfl⟩:=DG hx
   have lN:=(dO o (List.mem_of_getElem? ho)).same (s4.trans s5)
   have FD:(os.map bw)[i]? =some (bw o):=by rw[List.getElem?_map,ho];rfl
   obtain ⟨tM,VW⟩:=hg.has D6 FD
   have BQ:=s5 _ _ lP
   refine ⟨⟨rfl,trivial⟩,fR ?_⟩
   refine ⟨_,rfl,o.o,rfl,⟨_,aN.of lN.tp⟩,?_⟩
   refine rh (K:=K) (a:=o.o) (xs:=de o.ps) (fun k acc H'=> ∃ns:List Nat,acc=fH ns/\Al (gT (oW Ws)) ns ((bw o).take k)/\H'=H5) (by rw[bg];have:=lN.fw;omega) (fun k acc H' ⟨_,_,_,e⟩=>by rw[e];exact aN.of lN.tp) ⟨[],rfl, .nil,rfl⟩ ?_ ?_
   ·rintro k x acc H6 Y1 hk hx BU ⟨ns,rfl,CM,rfl⟩ Q5
    obtain ⟨p,hp,rfl⟩:=AM hx
    have jx:=List.mem_of_getElem? hp
    have Y2:=lN.pr p jx
    have OP:(bw o)[k]? =some p.pair:=by unfold bw;rw[List.getElem?_map,hp];rfl
    obtain ⟨n,hn⟩:=tM p.pair (List.mem_of_getElem? OP)
    refine ⟨⟨rfl,trivial⟩,fR ?_⟩
    refine ⟨_,rfl,_,rfl,d,_,rfl,by rw[<-JP.hit n _ hn];exact cj.t (k:=gJ p.pair) BQ Y2.tp,?_⟩
    exact Q5 _ _ (by simpa using BU) ⟨ns++[n],ya ns n,by rw[List.take_succ,OP];exact CM.snoc hn,rfl⟩
   ·rintro acc H6 D BU ⟨ns,rfl,CM,rfl⟩ hD
    rw[bg,show o.ps.length=(bw o).length from by unfold bw;rw[List.length_map],List.take_length]at CM
    refine nx _ _ (by simpa using eZ) ⟨Os++[⟨D,ns⟩],A5 Os ⟨D,ns⟩,by rw[List.length_append,BS];rfl,?_,s5.trans (ai.upd hD)⟩
    exact ni.snoc (l:=bw o) (ai.upd hD) s5 hD ae (by rw[BS];exact FD) CM
  ·rintro acc H5 D eZ ⟨Os,rfl,BS,ni,s5⟩ hD
   rw[j6]at BS
   have s6:=s5.trans (ai.upd (o:=HO.lst (gC Os)) hD)
   have BR:=s6 _ _ lP
   have IJ:=s6 _ _ V8
   have lH:=kP.same s6
   have Q6:upd H5 D (HO.lst (gC Os)) D=some (HO.lst (gC Os)):=ae
   have wM: ∀o∈Os,upd H5 D (HO.lst (gC Os)) o.a=some (.lst (fH o.ns)):=fun o ho=>(ai.upd hD) _ _ (ni.oc o ho)
   have Y3: ∀o∈Os,o.a≠D:=fun o ho z=>by have:=ni.oc o ho;rw[z,hD]at this;cases this
   have Q7:H4 D=none:=ai.free s5 hD
   have Y4:H D=none:=ai.free s4 Q7
   have w6:=DH hg D6 JP ni (by rw[BS];exact ng)
   generalize upd H5 D (HO.lst (gC Os))=H6 at s6 BR IJ lH Q6 wM ⊢
   refine ⟨_,rfl,d,kvs,rfl,BR,IJ,[(kS cX, .ref wl),(kS cI, .ref D),(kS gq, .int kvs.length)],rfl,by show 3<=15;decide,?_⟩
   have em:ij [] [(kS cX,V.ref wl),(kS cI,V.ref D),(kS gq,V.int kvs.length)]=sj wl D m:=by rw[JP.kl];exact yb wl D m
   rw[em]
   have MD: ∀{a:Addr} {xs:List V},H6 a=some (.lst xs)->a≠pd:=fun e z=>by rw[z,IJ]at e;cases e
   have OQ: ∀o∈Os, ∀u:HO,H4 o.a≠some u:=fun o ho u e=>by rw[ni.fr o ho]at e;cases e
   refine q pd wl D Ws Os m _ ⟨ae,by rw[aj (MD lH.wd)];exact lH.wd,by rw[aj (MD Q6)];exact Q6,fun c hc=>by rw[aj (MD (lH.wc c hc))];exact lH.wc c hc,fun c hc l hl=>by rw[aj (MD (lH.lc c hc l hl))];exact lH.lc c hc l hl,fun o ho=>by rw[aj (MD (wM o ho))];exact wM o ho,?_,?_⟩ ?_ D6 w6 (by omega) (fJ (s4.trans s6) MC)
   ·exact A7 kP.nd (fun a ha=>kP.live ha) Q7 ni.nd (fun a ha=>by obtain ⟨o,ho,e⟩:=List.mem_map.mp ha;rw[<-e];exact ni.fr o ho) fun ha=>by obtain ⟨o,ho,e⟩:=List.mem_map.mp ha;exact Y3 o ho e
   ·intro c hc l hl z
    have IK:=kP.lc c hc l hl
    rcases List.mem_cons.mp z with e | z
    ·exact kP.nl c hc l hl (by rw[e];exact List.mem_cons_self)
    rcases List.mem_cons.mp z with e | z
    ·rw[e,Q7]at IK;cases IK
    rcases List.mem_append.mp z with z | z
    ·exact kP.nl c hc l hl (List.mem_cons_of_mem _ z)
    ·obtain ⟨o,ho,e⟩:=List.mem_map.mp z
     rw[<-e,ni.fr o ho]at IK;cases IK
   ·intro a ha
    unfold o5 at ha
    rcases List.mem_cons.mp ha with e | ha
    ·rw[e];exact MC
    rcases List.mem_cons.mp ha with e | ha
    ·rw[e];exact n0
    rcases List.mem_cons.mp ha with e | ha
    ·rw[e];exact Y4
    rcases List.mem_append.mp ha with ha | ha
    ·obtain ⟨c,hc,e⟩:=List.mem_map.mp ha;rw[<-e];exact Q2 c hc
    ·obtain ⟨o,ho,e⟩:=List.mem_map.mp ha;rw[<-e];exact ai.free s4 (ni.fr o ho)
theorem BV:cD P w K mg base iK 2 Fp Ox ["_law_yard_here","_law_world","_law_deed_here"] (sV K):=by
 have fL:=i4 (P:=P) (w:=w) (base:=base) T
 have cF:=gA (P:=P) (w:=w) (base:=base) T
 refine T.Ir.fn.ok cL (fun vs H Q E h=>yk h) (fun dS A outer s H vs Q E hr h=>?_)
 refine ⟨_,(ag (aB (i:=3) cL.nd rfl (Or.inl rfl) (ay fL (hr.mono (by decide)) rfl T.tO.mg T.tO.fn.kp T.tO.bd .nil aR (aa (pv 0) af)))
   (ag (zA (i:=4) (j:=5) rfl cL.nd rfl rfl (by decide) rfl rfl (aa (bW (cH hr) (pv 1) (bR [119,111,114,100,115] (by decide+kernel)) (fun _ _=>rfl)) (aa (bW (cH hr) (pv 1) (bR [111,114,100,101,114,115] (by decide+kernel)) (fun _ _=>rfl)) af)) rfl)
   (ag (bH (aS h_ (az (aF K rfl) (pv 2) ah (fun _ _=>rfl)) (bR [115,119,97,112] (by decide+kernel)) (bq _)) (ag (bH (PW.pt (jc (aS (vM K rfl) (az (aF K rfl) (pv 2) ah (fun _ _=>rfl)) (pv 3) (by with_unfolding_all rfl)) (gW (cU (cY eM eM ah (az (aF K rfl) (pv 2) ah (fun _ _=>rfl)) (aE cB (au (ax K rfl) rfl T.z_len PySem.boot_len (aa (az (aH K rfl) (pv 5) (bB K rfl PySem.F.plainAttrs_list PySem.F.slot_list_index PySem.F.type_list_index (ou K rfl) (pv 3) (aa (az (aF K rfl) (pv 2) ah (fun _ _=>rfl)) af)) (fun _ _=>rfl)) af)) ah)))))) (ak (aQ dm)) aY)
   (ag (aB (i:=6) cL.nd rfl (Or.inl rfl) (az (aH K rfl) (pv 5) (bB K rfl PySem.F.plainAttrs_list PySem.F.slot_list_index PySem.F.type_list_index (ou K rfl) (pv 3) (aa (az (aF K rfl) (pv 2) ah (fun _ _=>rfl)) af)) (fun _ _=>rfl)))
   (ag (bE (bB K rfl PySem.F.plainAttrs_list PySem.F.slot_list_insert PySem.F.type_list_insert fj (pv 6) (aa (az (aF K rfl) (pv 2) ah (fun _ _=>rfl)) (aa (bB K rfl PySem.F.plainAttrs_list PySem.F.slot_list_pop PySem.F.type_list_pop hJ (pv 6) (aa (aE bz (az (aF K rfl) (pv 2) ah (fun _ _=>rfl)) ah) af)) af))))
   (ak (aQ dm))))) aY)
   (ag (bH (cU (cY eM kQ ah (az (aF K rfl) (pv 2) ah (fun _ _=>rfl)) (au (ax K rfl) rfl T.z_len PySem.boot_len (aa (pv 4) af)))) (ak (aQ dm)) aY)
   (ag (aB (i:=7) cL.nd rfl (Or.inl rfl) (az (aH K rfl) (pv 4) (az (aF K rfl) (pv 2) ah (fun _ _=>rfl)) (fun _ _=>rfl)))
   (ag (bH (aS h_ (az (aF K rfl) (pv 2) ah (fun _ _=>rfl)) (bR [116,117,114,110] (by decide+kernel)) (bq _)) (ag (fX (aE hU (eN (q8 K rfl) (pv 7) (fP ah) fO) (eN (q8 K rfl) (pv 7) fO (fP ah))) (gY (pv 4) (az (aF K rfl) (pv 2) ah (fun _ _=>rfl)) set_list))
   (ak (aQ dm))) aY)
   (ag (bH (aS h_ (az (aF K rfl) (pv 2) ah (fun _ _=>rfl)) (bR [111,117,116] (by decide+kernel)) (bq _)) (ag (bH (PW.pt (jc (cU (cY eM eM ah (az (aF K rfl) (pv 2) ah (fun _ _=>rfl)) (aE cB (au (ax K rfl) rfl T.z_len PySem.boot_len (aa (pv 7) af)) ah))) (gW (aS uw (az (aH K rfl) (az (aH K rfl) (pv 7) (az (aF K rfl) (pv 2) ah (fun _ _=>rfl)) (fun _ _=>rfl)) ah (fun _ _=>rfl)) (ay cF (hr.mono (by decide)) rfl T.kf.mg T.kf.fn.kp T.kf.bd .nil aR (aa (az (aH K rfl) (az (aH K rfl) (pv 7) (aE bz (az (aF K rfl) (pv 2) ah (fun _ _=>rfl)) ah) (fun _ _=>rfl)) ah (fun _ _=>rfl)) af)) (bq _))))) (ak (aQ dm)) aY)
   (ag (cn PassesOwn.never rfl (eh rfl T.z_range (aa ah af)) (aD (i:=8) cL.nd rfl (Or.inl rfl)) (ag (aB (i:=9) cL.nd rfl (Or.inl rfl) (az (aH K rfl) (bB K rfl PySem.F.plainAttrs_list PySem.F.slot_list_pop PySem.F.type_list_pop hJ (pv 7) (aa (az (aF K rfl) (pv 2) ah (fun _ _=>rfl)) af)) ah (fun _ _=>rfl)))
   (ak (cn PassesOwn.never rfl (eP K rfl (pv 5)) (aD (i:=6) cL.nd rfl (Or.inl rfl)) (ak (bH (aS (kz K rfl) (pv 9) (pv 6) (by with_unfolding_all rfl)) (ak (bE (bB K rfl PySem.F.plainAttrs_list PySem.F.slot_list_remove PySem.F.type_list_remove (Dc K rfl hr) (pv 6) (aa (pv 9) af)))) aY))))))
   (ak (aQ dm)))) aY)
   (ag (bH (PW.pt (jc (aS (vM K rfl) (az (aF K rfl) (pv 2) ah (fun _ _=>rfl)) (bb (fD rfl) rfl T.z_list boot_list (aa (pv 0) af)) (by with_unfolding_all rfl)) (gW (cU (cY eM eM ah (az (aF K rfl) (pv 2) ah (fun _ _=>rfl)) (au (ax K rfl) rfl T.z_len PySem.boot_len (aa (pv 7) af))))))) (ak (aQ dm)) aY)
   (ag (aB (i:=6) cL.nd rfl (Or.inl rfl) (az (aH K rfl) (pv 5) (az (aH K rfl) (bS ["_law_k","_law_name","_law_deed_here"] [none,none,some 2] (fE K rfl rfl T.z_enumerate (aa (pv 3) af)) ⟨⟨rfl,rfl,by first | exact .inl rfl | exact .inr rfl⟩,trivial⟩ (fun _ _ _ _=>(ck (n:=2) K rfl rfl (aP (aD (i:=0) (by decide+kernel:List.Nodup (["_law_k","_law_name","_law_deed_here"]:List Str)) rfl (Or.inl rfl)) (aP (aD (i:=1) (by decide+kernel:List.Nodup (["_law_k","_law_name","_law_deed_here"]:List Str)) rfl (Or.inl rfl)) bV)))) (fun _ _ _ _=>(hZ (aS (kz K rfl) (az (aF K rfl) (pv 2) ah (fun _ _=>rfl)) (bA (aa (pv 1) (aa (ay cF (hr.mono (by decide)) rfl T.kf.mg T.kf.fn.kp T.kf.bd .nil aR (aa (pv 1) af)) af))) (by with_unfolding_all rfl)))) (fun _ _ _ _=>(pv 0))) ah (fun _ _=>rfl)) (fun _ _=>rfl)))
   (ag (bH (cU (cY eM eM ah (az (aF K rfl) (pv 2) ah (fun _ _=>rfl)) (au (ax K rfl) rfl T.z_len PySem.boot_len (aa (pv 6) af)))) (ak (aQ dm)) aY)
   (ag (cn PassesOwn.never rfl (fE K rfl rfl T.z_enumerate (aa (bt (aa (az (aF K rfl) (pv 2) ah (fun _ _=>rfl)) (aa (ay cF (hr.mono (by decide)) rfl T.kf.mg T.kf.fn.kp T.kf.bd .nil aR (aa (az (aF K rfl) (pv 2) ah (fun _ _=>rfl)) af)) af))) af)) (ck (n:=2) K rfl rfl (aP (aD (i:=10) cL.nd rfl (Or.inl rfl)) (aP (aD (i:=11) cL.nd rfl (Or.inl rfl)) bV))) (ag (bE (bB K rfl PySem.F.plainAttrs_list PySem.F.slot_list_insert PySem.F.type_list_insert fj (pv 7) (aa (aE bz (az (aF K rfl) (pv 2) ah (fun _ _=>rfl)) (pv 10)) (aa (bt (aa (pv 11) (aa (bW (cH hr) (pv 1) (bR [109,97,110,121] (by decide+kernel)) (fun _ _=>rfl)) af))) af))))
   (ag (bE (bB K rfl PySem.F.plainAttrs_list PySem.F.slot_list_insert PySem.F.type_list_insert fj (pv 6) (aa (aE bz (az (aF K rfl) (pv 2) ah (fun _ _=>rfl)) (pv 10)) (aa (bW (cH hr) (pv 1) (bR [109,97,110,121] (by decide+kernel)) (fun _ _=>rfl)) af))))
   (ak (jZ (cH hr) (pv 1) (bR [109,97,110,121] (by decide+kernel)) (aE bz (bW (cH hr) (pv 1) (bR [109,97,110,121] (by decide+kernel)) (fun _ _=>rfl)) ah) rfl)))))
   (ak (aQ dm))))))))))))),?_⟩
 rcases h with h | h
 ·obtain ⟨y,d,wl,ol,a,Ws,Os,L,m,e,rfl,hy,Q1,hw,hW,hg,hm,ha,aX,q⟩:=h
  have hs:(100000:Nat)<sizeLine:=by decide
  have zg:=cK hy
  have zj:=hg.kX
  have fz:=hg.lr
  have pE:(oW Ws).length=Ws.length:=mT Ws
  have V9:Ws.length<=4:=by rw[bU,pE]at zj;exact zj
  have BS:Os.length=L.length:=by have:=hW.ln;unfold oO at this;rwa [List.length_map]at this
  have Q8:=hg.ln
  refine aG fun N1 g1=>?_
  refine ⟨_,rfl,y,rfl,by omega,fun nm l2 H1 n1 nh jd jC s1=>?_⟩
  refine g1 _ _ ?_
  rw[eA hy.lt]at jd
  have el:=fS jd jC
  subst el
  have jb:=hw.same s1
  have zf:=ha.ts (aC.of s1)
  have gw:cj H1 d (V.str (S cX)) (some (.ref wl)):=by rw[<-kH wl ol m];exact cj.k (k:=kS cX) jb.dk
  have go:cj H1 d (V.str (S cI)) (some (.ref ol)):=by rw[<-jy wl ol m];exact cj.k (k:=kS cI) jb.dk
  have ME:Fr (o5 d wl ol Ws Os) H H1:=Fr.of s1
  refine aG fun N2 g2=>?_
  refine ⟨_,rfl,d,_,rfl,gw,_,rfl,d,_,rfl,go,_,_,rfl,?_⟩
  refine g2 _ _ ?_
  change i9 _ _ _ [some (.str (S y)),some (.ref d),some (.ref a),some (.ref nm),some (.ref wl),some (.ref ol),none,none,none,none,none,none] H1
  cases e with
  | swap b n=>
   have h:H1 a=some (.tup [.str (S iy), .str (S [b]), .int n]):=zf
   obtain ⟨hb,hn⟩:=aX
   have hj:=List.idxOf_lt_length_of_mem hb
   have qA:(aq y).idxOf b<Os.length:=by omega
   have ho:Os[(aq y).idxOf b]? =some Os[(aq y).idxOf b]:=List.getElem?_eq_getElem qA
   generalize Os[(aq y).idxOf b]=o at ho
   have BW:(gC Os)[(aq y).idxOf b]? =some (V.ref o.a):=by unfold gC;rw[List.getElem?_map,ho];rfl
   have dU:=List.mem_of_getElem? ho
   have tP:=jb.oc o dU
   have eo:(oO Os)[(aq y).idxOf b]? =some o.ns:=by unfold oO;rw[List.getElem?_map,ho];rfl
   have hlen:o.ns.length=(L.getD ((aq y).idxOf b) []).length:=by
    have tQ:L[(aq y).idxOf b]? =some L[(aq y).idxOf b]:=List.getElem?_eq_getElem (by omega)
    rw[aK tQ]
    exact (hW.al _ _ _ eo tQ).len
   refine aG fun N3 g3=>?_
   refine ⟨_,rfl,a,_,0,_,rfl,rfl,aN.of h,rfl,_,_,rfl,rfl,_,rfl,aT (by decide) ?_⟩
   refine aG fun N4 g4=>?_
   refine ⟨_,rfl,a,_,1,_,rfl,rfl,aN.of h,rfl,_,rfl,nm,_,rfl, .inl (aJ.of nh),rfl,dJ _,_,rfl,a_ (by rw[if_pos rfl,iN,decide_eq_true hb];rfl) ?_⟩
   have ng:=jb.od
   have en:(n:Int)+1=((n+1:Nat):Int):=by omega
   have MF:o.ns.length<=160:=by
    rw[hlen]
    have tQ:L[(aq y).idxOf b]? =some L[(aq y).idxOf b]:=List.getElem?_eq_getElem (by omega)
    rw[aK tQ]
    exact hg.HW tQ
   have Q9:n+1<o.ns.length:=by omega
   refine ⟨_,rfl,a,_,2,_,rfl,rfl,aN.of h,rfl,_,_,rfl,rfl,_,rfl,aT (decide_eq_true (by omega)) ?_⟩
   refine ⟨_,rfl,_,rfl, .inl ⟨rfl,_,aJ.of nh⟩,_,rfl,a,_,1,_,rfl,rfl,aN.of h,rfl,nm,aq y,b,rfl,rfl,nh,hb,?_⟩
   refine ⟨ol,_,_,_,rfl,rfl,aJ.of ng,aA BW,o.a,_,rfl, .inl (aJ.of tP),_,_,rfl,rfl,_,_,rfl,rfl,_,rfl,a_ (by rw[gb,decide_eq_true (by omega)];rfl) ?_⟩
   refine g4 _ _ ?_
   refine aG fun N5 g5=>?_
   refine ⟨_,rfl,_,rfl, .inl ⟨rfl,_,aJ.of nh⟩,_,rfl,a,_,1,_,rfl,rfl,aN.of h,rfl,nm,aq y,b,rfl,rfl,nh,hb,?_⟩
   refine ⟨ol,_,_,_,rfl,rfl,aJ.of ng,aA BW,?_⟩
   refine g5 _ _ ?_
   refine aG fun N6 g6=>?_
   refine ⟨_,rfl, .inl ⟨rfl,_,aJ.of tP⟩,_,rfl,a,_,2,_,rfl,rfl,aN.of h,rfl,?_⟩
   refine ⟨_,rfl, .inl ⟨rfl,_,aJ.of tP⟩,_,rfl,a,_,2,_,rfl,rfl,aN.of h,rfl,_,_,rfl,rfl,?_⟩
   refine ⟨o.a,_,_,n+1,V.int (o.ns[n+1]:Nat),rfl,rfl,tP,by omega,by omega,by rw[en,gb,seqIndex_of (by omega) (by omega),Int.toNat_natCast],by unfold fH;rw[List.getElem?_map,List.getElem?_eq_getElem Q9];rfl,?_⟩
   have hle:((fH o.ns).eraseIdx (n+1)).length=o.ns.length - 1:=by rw[List.length_eraseIdx,gb,if_pos Q9]
   refine ⟨o.a,_,n,_,rfl,rfl,ae,by rw[hle];omega,by rw[hle];omega,?_⟩
   rw[vp,Bd n o.ns Q9]
   refine g6 _ _ ?_
   have eL:(oO Os).getD ((aq y).idxOf b) []=o.ns:=aK eo
   have ma:o.a∈o5 d wl ol Ws Os:=List.mem_cons_of_mem _ (List.mem_cons_of_mem _ (List.mem_cons_of_mem _ (List.mem_append_right _ (List.mem_map.mpr ⟨o,dU,rfl⟩))))
   refine q Ws (Os.set ((aq y).idxOf b) ⟨o.a,iB n o.ns⟩) _ (jb.C6 ho) rfl ?_ (fun x hx=> .inr ?_) (ME.upd ma)
   ·show (Os.set _ _).map Oc.ns=(oO Os).set _ (iB n ((oO Os).getD _ []))
    rw[eL,List.map_set];rfl
   ·have em:(Os.set ((aq y).idxOf b) ⟨o.a,iB n o.ns⟩).map Oc.a=Os.map Oc.a:=by rw[List.map_set];exact set_same (by rw[List.getElem?_map,ho];rfl)
    unfold o5 at hx ⊢
    rw[em]at hx
    exact hx
  | out c k=>
   have h:H1 a=some (.tup [.str (S mI), .int c, .int k]):=zf
   obtain ⟨Mu,x,Ak,vX⟩:=aX
   have hc:c<Ws.length:=by rwa [bU,pE]at Mu
   have i6:Ws[c]? =some Ws[c]:=List.getElem?_eq_getElem hc
   generalize Ws[c]=w at i6
   have jk:=List.mem_of_getElem? i6
   have zq:(iC Ws)[c]? =some (V.ref w.a):=by unfold iC;rw[List.getElem?_map,i6];rfl
   have i5:(oW Ws)[c]? =some w.w:=by unfold oW;rw[List.getElem?_map,i6];rfl
   have pF:=jb.wc w jk
   have jr:=jb.wd
   have vd:w.ls.length<=40:=by
    have:=(fz _ (List.mem_map.mpr ⟨w.w,List.mem_of_getElem? i5,rfl⟩)).2
    rwa [List.length_map,Wc.nE]at this
   rw[cq (by rw[pE];exact hc),aK i5]at Ak vX
   have HS:k+1<w.ls.length:=by have:=(List.getElem?_eq_some_iff.mp vX).1;rwa [List.length_map,Wc.nE]at this
   have jG:w.ls[k]? =some (w.ls[k]'(by omega)):=List.getElem?_eq_getElem (by omega)
   have qI:w.ls[k+1]? =some w.ls[k+1]:=List.getElem?_eq_getElem HS
   generalize (w.ls[k]'(by omega))=l0 at jG
   generalize w.ls[k+1]=l1 at qI
   have e0:l0.x=x:=by unfold Wc.w at Ak;rw[List.map_map,List.getElem?_map,jG]at Ak;exact Option.some.inj Ak
   have e1:l1.x=bL x:=by unfold Wc.w at vX;rw[List.map_map,List.getElem?_map,qI]at vX;exact Option.some.inj vX
   have wx:Lt x:=hy.lt x ((fz _ (List.mem_map.mpr ⟨w.w,List.mem_of_getElem? i5,rfl⟩)).1 x (List.mem_of_getElem? Ak))
   have K8:Lt (bL x):=hy.lt _ ((fz _ (List.mem_map.mpr ⟨w.w,List.mem_of_getElem? i5,rfl⟩)).1 _ (List.mem_of_getElem? vX))
   have v0:(cT w.ls)[k]? =some (V.ref l0.a):=by unfold cT;rw[List.getElem?_map,jG];rfl
   have v1:(cT w.ls)[k+1]? =some (V.ref l1.a):=by unfold cT;rw[List.getElem?_map,qI];rfl
   have a0:=jb.lc w jk l0 (List.mem_of_getElem? jG)
   have a1:=jb.lc w jk l1 (List.mem_of_getElem? qI)
   have ek:(k:Int)+1=((k+1:Nat):Int):=by omega
   refine aG fun N7 g7=>?_
   refine ⟨_,rfl,a,_,0,_,rfl,rfl,aN.of h,rfl,_,_,rfl,rfl,_,rfl,a_ (by decide) ?_⟩
   refine g7 _ _ ?_
   refine aG fun N8 g8=>?_
   refine ⟨_,rfl,a,_,1,_,rfl,rfl,aN.of h,rfl,_,_,rfl,rfl,_,rfl,aT (decide_eq_true (by omega)) ⟨_,rfl,wl,_,rfl, .inl (aJ.of jr),_,_,rfl,rfl,_,rfl,a_ (by rw[cO,decide_eq_true (by omega)];rfl) ?_⟩⟩
   refine g8 _ _ ?_
   refine aG fun N9 g9=>?_
   refine ⟨_,rfl,_,rfl,a,_,1,_,rfl,rfl,aN.of h,rfl,wl,_,_,_,rfl,rfl,aJ.of jr,aA zq,?_⟩
   refine g9 _ _ ?_
   change i9 _ _ _ [some (.str (S y)),some (.ref d),some (.ref a),some (.ref nm),some (.ref wl),some (.ref ol),none,some (.ref w.a),none,none,none,none] H1
   refine aG fun V_ MG=>?_
   refine ⟨_,rfl,a,_,0,_,rfl,rfl,aN.of h,rfl,_,_,rfl,rfl,_,rfl,a_ (by decide) ?_⟩
   refine MG _ _ ?_
   refine aG fun Wa Q_=>?_
   refine ⟨_,rfl,a,_,0,_,rfl,rfl,aN.of h,rfl,_,_,rfl,rfl,_,rfl,aT (by decide) ?_⟩
   refine aG fun Wb OR=>?_
   refine ⟨_,rfl,a,_,2,_,rfl,rfl,aN.of h,rfl,_,_,rfl,rfl,_,rfl,aT (decide_eq_true (by omega)) ⟨_,rfl,w.a,_,rfl, .inl (aJ.of pF),_,_,rfl,rfl,_,_,rfl,rfl,_,rfl,a_ (by rw[cJ,decide_eq_true (by omega)];rfl) ?_⟩⟩
   refine ⟨_,rfl,_,rfl,a,_,2,_,rfl,rfl,aN.of h,rfl,w.a,_,_,_,rfl,rfl,aJ.of pF,aA v0,l0.a,_,0,_,rfl,rfl,aJ.of a0,rfl,?_⟩
   refine ⟨_,rfl,_,rfl,a,_,2,_,rfl,rfl,aN.of h,rfl,_,_,rfl,rfl,w.a,_,_,_,rfl,rfl,aJ.of pF,by rw[ek];exact aA v1,l1.a,_,0,_,rfl,rfl,aJ.of a1,rfl,?_⟩
   refine ⟨l1.x,rfl,by rw[e1];exact K8,[l0.x],[bL l1.x],rfl,rfl,_,rfl,a_ (by rw[e0,e1,cN wx];simp) ?_⟩
   refine OR _ _ ?_
   refine aG fun N13 OS=>?_
   refine ⟨_,rfl,by decide,by decide,?_⟩
   have mw:w.a∈o5 d wl ol Ws Os:=List.mem_cons_of_mem _ (List.mem_cons_of_mem _ (List.mem_cons_of_mem _ (List.mem_append_left _ (List.mem_map.mpr ⟨w,jk,rfl⟩))))
   have mo: ∀o∈Os,o.a∈o5 d wl ol Ws Os:=fun o ho=>List.mem_cons_of_mem _ (List.mem_cons_of_mem _ (List.mem_cons_of_mem _ (List.mem_append_right _ (List.mem_map.mpr ⟨o,ho,rfl⟩))))
   have OT: ∀ls,(Ws.set c ⟨w.a,ls⟩).map Wc.a=Ws.map Wc.a:=fun ls=>by rw[List.map_set];exact set_same (by rw[List.getElem?_map,i6];rfl)
   have eqB: ∀ls P,uY wl ol (Ws.set c ⟨w.a,ls⟩) (oF P Os)=uY wl ol Ws Os:=fun ls P=>by unfold uY;rw[OT,L7]
   refine fh (fun i σ H'=> ∃(ov tv nv:Option V),σ=[some (.str (S y)),some (.ref d),some (.ref a),some (.ref nm),some (.ref wl),some (.ref ol),ov,some (.ref w.a),tv,nv,none,none]/\dH H' d wl ol (Ws.set c ⟨w.a,w.ls.take k++w.ls.drop (k+i)⟩) (oF (cb w.ls k i) Os) m/\Fr (o5 d wl ol Ws Os) H H'/\aC H1 H')
    ⟨none,none,none,rfl,by rw[mX,DL,Nat.add_zero,List.take_append_drop,set_same i6];exact jb,ME,aC.of (ai.refl _)⟩ ?_ ?_
   ·rintro i σ H2 hi ⟨ov,tv,nv,rfl,jC,FE,D8⟩
    have LS:i<2:=by omega
    have OU:w.ls[k+i]? =some (w.ls[k+i]'(by omega)):=List.getElem?_eq_getElem (by omega)
    generalize (w.ls[k+i]'(by omega))=l at OU
    have hlm:=List.mem_of_getElem? OU
    obtain ⟨Ra,We⟩:=DM OU
    have zr:(Ws.set c ⟨w.a,w.ls.take k++w.ls.drop (k+i)⟩)[c]? =some ⟨w.a,w.ls.take k++w.ls.drop (k+i)⟩:=List.getElem?_set_self hc
    have Ec:=jC.wc _ (List.mem_of_getElem? zr)
    have h2:=D8 _ _ h
    have MH:=jC.lc _ (List.mem_of_getElem? zr) l (List.mem_of_getElem? Ra)
    have Y5:l.a∉uY wl ol (Ws.set c ⟨w.a,w.ls.take k++w.ls.drop (k+i)⟩) (oF (cb w.ls k i) Os):=jC.nl _ (List.mem_of_getElem? zr) l (List.mem_of_getElem? Ra)
    have Mc:(cT (w.ls.take k++w.ls.drop (k+i)))[k]? =some (V.ref l.a):=by unfold cT;rw[List.getElem?_map,Ra];rfl
    have hlen:(cT (w.ls.take k++w.ls.drop (k+i))).length=w.ls.length - i:=by rw[cJ,List.length_append,List.length_take,List.length_drop];omega
    refine aG fun N14 Y6=>?_
    refine ⟨_,rfl, .inl ⟨rfl,_,aJ.of Ec⟩,_,rfl,a,_,2,_,rfl,rfl,aN.of h2,rfl,?_⟩
    refine ⟨w.a,_,_,k,V.ref l.a,rfl,rfl,Ec,by omega,by omega,by rw[hlen,seqIndex_of (by omega) (by omega),Int.toNat_natCast],Mc,?_⟩
    have ee:(cT (w.ls.take k++w.ls.drop (k+i))).eraseIdx k=cT (w.ls.take k++w.ls.drop (k+(i+1))):=by
     unfold cT
     rw[iQ,We]
    rw[ee]
    have sub: ∀x∈w.ls.take k++w.ls.drop (k+(i+1)),x∈w.ls.take k++w.ls.drop (k+i):=fun x hx=>by
     rw[<-We]at hx
     exact List.mem_of_mem_eraseIdx hx
    have qB:=jC.L5 (ls:=w.ls.take k++w.ls.drop (k+(i+1))) zr fun x hx=>⟨jC.lc _ (List.mem_of_getElem? zr) x (sub x hx),jC.nl _ (List.mem_of_getElem? zr) x (sub x hx)⟩
    rw[set_set]at qB
    have y6:=FE.upd (o:=HO.lst (cT (w.ls.take k++w.ls.drop (k+(i+1))))) mw
    have Wf:=D8.trans (aC.ja (o:=HO.lst (cT (w.ls.take k++w.ls.drop (k+(i+1))))) Ec)
    have MI:upd H2 w.a (HO.lst (cT (w.ls.take k++w.ls.drop (k+(i+1))))) l.a=some (.lst [.str (S [l.x]), .int l.n]):=by
     rw[aj fun z=>Y5 (by rw[eqB,z];exact List.mem_cons_of_mem _ (List.mem_cons_of_mem _ (List.mem_append_left _ (List.mem_map.mpr ⟨w,jk,rfl⟩))))]
     exact MH
    generalize upd H2 w.a (HO.lst (cT (w.ls.take k++w.ls.drop (k+(i+1)))))=H3 at qB y6 Wf MI ⊢
    clear jC FE D8 Ec h2 MH
    refine ⟨l.a,_,1,_,rfl,rfl,aJ.of MI,rfl,?_⟩
    refine Y6 _ _ ?_
    have MJ:=qB.od
    rw[Ia]at MJ
    refine ⟨_,rfl,ol,rfl,⟨_,aJ.of MJ⟩,?_⟩
    refine jK (K:=K) (a:=ol) (xs:=gC Os) (fun j σ H'=> ∃ov:Option V,σ=[some (.str (S y)),some (.ref d),some (.ref a),some (.ref nm),some (.ref wl),some (.ref ol),ov,some (.ref w.a),some (.int (0+i)),some (.int l.n),none,none]/\dH H' d wl ol (Ws.set c ⟨w.a,w.ls.take k++w.ls.drop (k+(i+1))⟩) ((oF (cb w.ls k (i+1)) Os).take j++(oF (cb w.ls k i) Os).drop j) m/\Fr (o5 d wl ol Ws Os) H H'/\aC H1 H')
     ⟨ov,rfl,qB,y6,Wf⟩ (fun j σ H' _ ⟨_,_,h,_,_⟩=>aJ.of (by have:=h.od;rwa [L8]at this)) ?_ ?_
    ·rintro j x σ H4 hx ⟨Y7,rfl,Cp,IL,zo⟩
     obtain ⟨o,ho,rfl⟩:=Bb hx
     have hjO:j<Os.length:=(List.getElem?_eq_some_iff.mp ho).1
     have dU:=List.mem_of_getElem? ho
     have IA:=Ib (a:=oF (cb w.ls k (i+1)) Os) (j:=j) (by rw[qw];omega) (Fc (P:=cb w.ls k i) ho)
     have tP:=Cp.oc _ (List.mem_of_getElem? IA)
     have Rb:(o.ns.filter (cb w.ls k i)).Nodup:=(hW.on o.ns (by unfold oO;exact List.mem_map.mpr ⟨o,dU,rfl⟩)).filter _
     have ef:o.ns.filter (cb w.ls k (i+1))=(o.ns.filter (cb w.ls k i)).filter fun n=>decide (n≠l.n):=by
      rw[List.filter_filter]
      congr 1
      funext n
      rw[jz OU,Bool.and_comm]
     have yD:=nF (a:=oF (cb w.ls k (i+1)) Os) (b:=oF (cb w.ls k i) Os) (by rw[qw];omega) (Fc (P:=cb w.ls k (i+1)) ho)
     refine ⟨_,rfl,_,rfl,o.a,_,rfl, .inl (aJ.of tP),rfl,Bc _,_,rfl,?_⟩
     rw[DJ]
     refine eu (fun z=>?_) (fun z=>?_)
     ·have zm:l.n∈o.ns.filter (cb w.ls k i):=of_decide_eq_true z
      obtain ⟨r,r1,r2,r3⟩:=Bh zm Rb
      refine ⟨_,rfl, .inl ⟨rfl,_,aJ.of tP⟩,_,rfl,?_⟩
      refine ⟨o.a,_,_,ids (o.ns.filter (cb w.ls k i)), .int l.n,r,rfl,rfl,tP,kE _, .int _,⟨lay_ints _,rfl⟩,by show 0<=60;decide,⟨.int l.n,by unfold ids;rw[List.getElem?_map,r1];rfl,?_⟩,fun m' e' Y8 Y9=>?_,?_⟩
      ·exact qx l.n
      ·obtain ⟨n',g1,g2⟩:=H_ Y9
       rw[g2]
       exact uZ (r2 m' n' Y8 g1)
      ·have er:(fH (o.ns.filter (cb w.ls k i))).eraseIdx r=fH (o.ns.filter (cb w.ls k (i+1))):=by
        rw[ef, <-r3]
        unfold fH
        rw[iQ]
       rw[er]
       refine ⟨_,rfl,?_,IL.upd (mo o dU),zo.trans (aC.ja tP)⟩
       rw[<-yD]
       exact Cp.C6 (o:=⟨o.a,o.ns.filter (cb w.ls k i)⟩) IA
     ·have zm:l.n∉o.ns.filter (cb w.ls k i):=fun g=>z (decide_eq_true g)
      rw[yg zm]at ef
      refine ⟨_,rfl,?_,IL,zo⟩
      rw[<-yD,ef,set_same IA]
      exact Cp
    ·rintro σ H4 ⟨Y7,rfl,Cp,IL,zo⟩
     refine ⟨_,_,_,rfl,?_,IL,zo⟩
     have t1:(oF (cb w.ls k (i+1)) Os).take Os.length=oF (cb w.ls k (i+1)) Os:=List.take_of_length_le (by rw[qw];exact Nat.le_refl _)
     have t2:(oF (cb w.ls k i) Os).drop Os.length=[]:=List.drop_of_length_le (by rw[qw];exact Nat.le_refl _)
     rw[qv,t1,t2,List.append_nil]at Cp
     exact Cp
   ·rintro σ H2 ⟨ov,tv,nv,rfl,jC,FE,D8⟩
    refine OS _ _ ?_
    refine q _ _ H2 jC ?_ ?_ (fun x hx=> .inr ?_) FE
    ·show (Ws.set c _).map Wc.w=(oW Ws).set c (((oW Ws).getD c []).take k++((oW Ws).getD c []).drop (k+2))
     rw[aK i5,List.map_set]
     show (Ws.map Wc.w).set c ((w.ls.take k++w.ls.drop (k+2)).map Lc.pr)=_
     rw[List.map_append,List.map_drop,List.map_take]
     rfl
    ·show (oF (cb w.ls k 2) Os).map Oc.ns=(oO Os).map _
     unfold oF oO
     rw[List.map_map,List.map_map,aK i5]
     refine List.map_congr_left fun o _=>?_
     show o.ns.filter (cb w.ls k 2)=o.ns.filter _
     congr 1
     funext n
     have g0:w.w.getD k (0,0)=(l0.x,l0.n):=aK (by unfold Wc.w;rw[List.getElem?_map,jG];rfl)
     have g1:w.w.getD (k+1) (0,0)=(l1.x,l1.n):=aK (by unfold Wc.w;rw[List.getElem?_map,qI];rfl)
     rw[jz (l:=l1) qI,jz (l:=l0) (by simpa using jG),mX,g0,g1,Bool.true_and]
    ·unfold o5 at hx ⊢
     rw[OT,L7]at hx
     exact hx
  | turn c=>
   have h:H1 a=some (.tup [.str (S gN), .int c]):=zf
   have hc:c<Ws.length:=by have:c<(lets (oW Ws)).length:=aX;rwa [bU,pE]at this
   have i6:Ws[c]? =some Ws[c]:=List.getElem?_eq_getElem hc
   generalize Ws[c]=w at i6
   have jk:=List.mem_of_getElem? i6
   have zq:(iC Ws)[c]? =some (V.ref w.a):=by unfold iC;rw[List.getElem?_map,i6];rfl
   have i5:(oW Ws)[c]? =some w.w:=by unfold oW;rw[List.getElem?_map,i6];rfl
   have pF:=jb.wc w jk
   have jr:=jb.wd
   refine aG fun N15 Y_=>?_
   refine ⟨_,rfl,a,_,0,_,rfl,rfl,aN.of h,rfl,_,_,rfl,rfl,_,rfl,a_ (by decide) ?_⟩
   refine Y_ _ _ ?_
   refine aG fun N16 Za=>?_
   refine ⟨_,rfl,a,_,1,_,rfl,rfl,aN.of h,rfl,_,_,rfl,rfl,_,rfl,aT (decide_eq_true (by omega)) ⟨_,rfl,wl,_,rfl, .inl (aJ.of jr),_,_,rfl,rfl,_,rfl,a_ (by rw[cO,decide_eq_true (by omega)];rfl) ?_⟩⟩
   refine Za _ _ ?_
   refine aG fun N17 Zb=>?_
   refine ⟨_,rfl,_,rfl,a,_,1,_,rfl,rfl,aN.of h,rfl,wl,_,_,_,rfl,rfl,aJ.of jr,aA zq,?_⟩
   refine Zb _ _ ?_
   change i9 _ _ _ [some (.str (S y)),some (.ref d),some (.ref a),some (.ref nm),some (.ref wl),some (.ref ol),none,some (.ref w.a),none,none,none,none] H1
   refine aG fun N18 g18=>?_
   refine ⟨_,rfl,a,_,0,_,rfl,rfl,aN.of h,rfl,_,_,rfl,rfl,_,rfl,aT (by decide) ?_⟩
   refine aG fun N19 Zc=>?_
   refine ⟨_,rfl,_,rfl,w.a,_,rfl,aJ.of pF,fun p1 Ed=>?_⟩
   rw[Bg,Be]
   have t1:=ai.upd (o:=HO.lst (cT (w.ls.drop 1))) Ed
   have gS:upd H1 p1 (HO.lst (cT (w.ls.drop 1))) p1=some (HO.lst (cT (w.ls.drop 1))):=ae
   generalize upd H1 p1 (HO.lst (cT (w.ls.drop 1)))=H2 at t1 gS ⊢
   refine ⟨_,rfl,_,rfl,w.a,_,rfl,aJ.of (t1 _ _ pF),fun p2 tu=>?_⟩
   rw[yf,Bf]
   have t2:=ai.upd (o:=HO.lst (cT (w.ls.take 1))) tu
   have kW:upd H2 p2 (HO.lst (cT (w.ls.take 1))) p2=some (HO.lst (cT (w.ls.take 1))):=ae
   have DZ:=t2 _ _ gS
   have OV:=t1.trans t2
   generalize upd H2 p2 (HO.lst (cT (w.ls.take 1)))=H3 at OV DZ kW ⊢
   clear t1 t2 gS
   have vd:w.ls.length<=40:=by
    have:=(fz _ (List.mem_map.mpr ⟨w.w,List.mem_of_getElem? i5,rfl⟩)).2
    rwa [List.length_map,Wc.nE]at this
   refine ⟨p1,p2,_,_,rfl,rfl,DZ,kW,by rw[cJ,cJ,List.length_drop,List.length_take];omega,fun p3 Cq=>?_⟩
   rw[DK]
   have qB:=jb.same OV
   have h3:=qB.QL (ls:=w.ls.drop 1++w.ls.take 1) i6 Cq fun l hl=>by
    have:l∈w.ls:=(List.mem_append.mp hl).elim List.mem_of_mem_drop List.mem_of_mem_take
    exact ⟨qB.lc w jk l this,qB.nl w jk l this⟩
   have t3:=OV.trans (ai.upd (o:=HO.lst (cT (w.ls.drop 1++w.ls.take 1))) Cq)
   refine ⟨_,rfl,_,rfl,a,_,1,_,rfl,rfl,aN.of (t3 _ _ h),rfl,wl,_,_,c,rfl,rfl,t3 _ _ jr,by rw[cO];exact iP hc,?_⟩
   rw[show (iC Ws).set c (V.ref p3)=iC (Ws.set c ⟨p3,w.ls.drop 1++w.ls.take 1⟩) from by unfold iC;rw[List.map_set]]
   refine Zc _ _ ?_
   refine q _ Os _ h3 ?_ rfl (fun x hx=>?_) ((ME.after t3).upd (List.mem_cons_of_mem _ List.mem_cons_self))
   ·show (Ws.set c _).map Wc.w=(oW Ws).set c (((oW Ws).getD c []).drop 1++((oW Ws).getD c []).take 1)
    rw[aK i5,List.map_set]
    show (Ws.map Wc.w).set c ((w.ls.drop 1++w.ls.take 1).map Lc.pr)=_
    rw[List.map_append,List.map_drop,List.map_take]
    rfl
   ·unfold o5 at hx ⊢
    rcases List.mem_cons.mp hx with z | z
    ·exact .inr (by rw[z];exact List.mem_cons_self)
    rcases List.mem_cons.mp z with z | z
    ·exact .inr (by rw[z];exact List.mem_cons_of_mem _ List.mem_cons_self)
    rcases List.mem_cons.mp z with z | z
    ·exact .inr (by rw[z];exact List.mem_cons_of_mem _ (List.mem_cons_of_mem _ List.mem_cons_self))
    rcases List.mem_append.mp z with z | z
    ·rw[List.map_set]at z
     rcases List.mem_or_eq_of_mem_set z with z | z
     ·exact .inr (List.mem_cons_of_mem _ (List.mem_cons_of_mem _ (List.mem_cons_of_mem _ (List.mem_append_left _ z))))
     ·exact .inl (by rw[z];exact ai.free (s1.trans OV) Cq)
    ·exact .inr (List.mem_cons_of_mem _ (List.mem_cons_of_mem _ (List.mem_cons_of_mem _ (List.mem_append_right _ z))))
  | ins c k x n=>
   have h:H1 a=some (.tup [.str (S AR), .int c, .int k, .str (S [x]), .int n]):=zf
   obtain ⟨Mu,OW,Rc,m_,Zd⟩:=aX
   have hc:c<Ws.length:=by rwa [bU,pE]at Mu
   have i6:Ws[c]? =some Ws[c]:=List.getElem?_eq_getElem hc
   generalize Ws[c]=w at i6
   have jk:=List.mem_of_getElem? i6
   have zq:(iC Ws)[c]? =some (V.ref w.a):=by unfold iC;rw[List.getElem?_map,i6];rfl
   have i5:(oW Ws)[c]? =some w.w:=by unfold oW;rw[List.getElem?_map,i6];rfl
   have pF:=jb.wc w jk
   have jr:=jb.wd
   rw[cq (by rw[pE];exact hc),aK i5,List.length_map,Wc.nE]at OW Rc
   have wx:Lt x:=hy.lt x m_
   have y_:=mC hy m_
   have FC:(aq y).idxOf (PyProof.Rows.lo1 x)<(aq y).length:=List.idxOf_lt_length_of_mem y_
   have xY:=oZ hy
   have qA:(aq y).idxOf (PyProof.Rows.lo1 x)<Os.length:=by omega
   have ho:Os[(aq y).idxOf (PyProof.Rows.lo1 x)]? =some Os[(aq y).idxOf (PyProof.Rows.lo1 x)]:=List.getElem?_eq_getElem qA
   generalize Os[(aq y).idxOf (PyProof.Rows.lo1 x)]=o at ho
   have BW:(gC Os)[(aq y).idxOf (PyProof.Rows.lo1 x)]? =some (V.ref o.a):=by unfold gC;rw[List.getElem?_map,ho];rfl
   have dU:=List.mem_of_getElem? ho
   have eo:(oO Os)[(aq y).idxOf (PyProof.Rows.lo1 x)]? =some o.ns:=by unfold oO;rw[List.getElem?_map,ho];rfl
   have tQ:L[(aq y).idxOf (PyProof.Rows.lo1 x)]? =some L[(aq y).idxOf (PyProof.Rows.lo1 x)]:=List.getElem?_eq_getElem (by omega)
   have hlen:o.ns.length=(L.getD ((aq y).idxOf (PyProof.Rows.lo1 x)) []).length:=by
    rw[aK tQ]
    exact (hW.al _ _ _ eo tQ).len
   have MF:o.ns.length<=160:=by rw[hlen,aK tQ];exact hg.HW tQ
   have hn:n<=o.ns.length:=by rw[hlen];exact Zd
   refine aG fun N20 Ze=>?_
   refine ⟨_,rfl,a,_,0,_,rfl,rfl,aN.of h,rfl,_,_,rfl,rfl,_,rfl,a_ (by decide) ?_⟩
   refine Ze _ _ ?_
   refine aG fun N21 Zf=>?_
   refine ⟨_,rfl,a,_,1,_,rfl,rfl,aN.of h,rfl,_,_,rfl,rfl,_,rfl,aT (decide_eq_true (by omega)) ⟨_,rfl,wl,_,rfl, .inl (aJ.of jr),_,_,rfl,rfl,_,rfl,a_ (by rw[cO,decide_eq_true (by omega)];rfl) ?_⟩⟩
   refine Zf _ _ ?_
   refine aG fun N22 Zg=>?_
   refine ⟨_,rfl,_,rfl,a,_,1,_,rfl,rfl,aN.of h,rfl,wl,_,_,_,rfl,rfl,aJ.of jr,aA zq,?_⟩
   refine Zg _ _ ?_
   change i9 _ _ _ [some (.str (S y)),some (.ref d),some (.ref a),some (.ref nm),some (.ref wl),some (.ref ol),none,some (.ref w.a),none,none,none,none] H1
   refine aG fun N23 Zh=>?_
   refine ⟨_,rfl,a,_,0,_,rfl,rfl,aN.of h,rfl,_,_,rfl,rfl,_,rfl,a_ (by decide) ?_⟩
   refine Zh _ _ ?_
   refine aG fun N24 Zi=>?_
   refine ⟨_,rfl,a,_,0,_,rfl,rfl,aN.of h,rfl,_,_,rfl,rfl,_,rfl,a_ (by decide) ?_⟩
   refine Zi _ _ ?_
   refine aG fun N25 Zj=>?_
   refine ⟨_,rfl,a,_,3,_,rfl,rfl,aN.of h,rfl,_,rfl,y,rfl,by omega,fun p1 Ed=>?_⟩
   have t1:=ai.upd (o:=HO.lst (bO y)) Ed
   refine ⟨p1,_,rfl, .inl (aJ.of ae),rfl,dJ _,_,rfl,a_ (by rw[if_pos rfl,iN,decide_eq_true m_];rfl) ?_⟩
   have h2:=t1 _ _ h
   have jC:=jb.same t1
   have tH:=t1 _ _ nh
   have FE:=ME.after t1
   have s2:=s1.trans t1
   generalize upd H1 p1 (HO.lst (bO y))=H2 at h2 jC tH FE s2 ⊢
   clear t1 jb nh h ME pF jr gw go zf s1
   have pF:=jC.wc w jk
   refine ⟨_,rfl,a,_,2,_,rfl,rfl,aN.of h2,rfl,_,_,rfl,rfl,_,rfl,aT (decide_eq_true (by omega)) ⟨_,rfl,w.a,_,rfl, .inl (aJ.of pF),_,_,rfl,rfl,_,rfl,a_ (by rw[cJ,decide_eq_true (by omega)];rfl) ?_⟩⟩
   refine Zj _ _ ?_
   refine aG fun Zk Rf=>?_
   refine ⟨_,rfl,_,rfl,nm,rfl,⟨_,aJ.of tH⟩,?_⟩
   refine jt (K:=K) (a:=nm) (xs:=bO (aq y)) (fun i acc H'=>ai H2 H'/\acc=if (aq y).idxOf (PyProof.Rows.lo1 x)<i then [V.int ((aq y).idxOf (PyProof.Rows.lo1 x):Nat)] else []) (by rw[aU];omega) (fun i acc H' h=>aJ.of (h.1 _ _ tH)) ⟨ai.refl _,by simp⟩ ?_ ?_
   ·rintro i v acc H9 T Nx hv eZ ⟨s9,rfl⟩ nT nx
    obtain ⟨nb,ke,rfl⟩:=dB hv
    have BJ:=List.mem_of_getElem? ke
    have nH:=j7 hy BJ
    have BK:=iA xY ke
    refine ⟨T,_,rfl,aN.of ae,rfl,_,_,rfl,_,_,rfl,rfl,?_⟩
    have sT:=s9.trans (ai.upd (o:=HO.tup [.int i, .str (S [nb])]) nT)
    refine ⟨⟨rfl,trivial⟩,?_⟩
    refine ⟨_,rfl,a,_,3,_,rfl,rfl,aN.of (sT _ _ h2),rfl,_,rfl,_,rfl,nb,rfl, .inl nH,by show 2<=sizeLine;decide,fun t nt=>?_⟩
    refine ⟨t,_,rfl, .inr (aN.of ae),rfl,rfl,_,rfl,?_⟩
    have BL:=sT.trans (ai.upd (o:=HO.tup [.str (S [nb]), .str (S [bL nb])]) nt)
    generalize upd (upd H9 T (HO.tup [.int i, .str (S [nb])])) t (HO.tup [.str (S [nb]), .str (S [bL nb])])=D_ at BL ⊢
    show if qV (.str (S [x])) [.str (S [nb]), .str (S [bL nb])]=true then _ else _
    rw[lL]
    have E_:(decide (x=nb)||decide (x=bL nb))=decide (PyProof.Rows.lo1 x=nb):=(qj nH wx).symm
    rw[E_]
    refine eu (fun v1=>?_) (fun v1=>?_)
    ·have e1:PyProof.Rows.lo1 x=nb:=of_decide_eq_true v1
     have BM:(aq y).idxOf (PyProof.Rows.lo1 x)=i:=by rw[e1];exact BK
     refine ⟨_,rfl,nx _ _ (by simpa using eZ) ⟨BL,?_⟩⟩
     rw[BM,if_neg (Nat.lt_irrefl _),if_pos (Nat.lt_succ_self _)]
     rfl
    ·have e1: ¬PyProof.Rows.lo1 x=nb:=fun g=>v1 (decide_eq_true g)
     refine nx _ _ (Nat.le_succ_of_le eZ) ⟨BL,?_⟩
     have e2:(aq y).idxOf (PyProof.Rows.lo1 x)≠i:=fun g=>e1 (by
      have e3:=List.getElem_idxOf FC
      have e4:=(List.getElem?_eq_some_iff.mp ke).2
      rw[<-e3, <-e4]
      congr 1)
     by_cases g:(aq y).idxOf (PyProof.Rows.lo1 x)<i
     ·rw[if_pos g,if_pos (by omega)]
     ·rw[if_neg g,if_neg (by omega)]
   ·rintro acc H9 D eZ ⟨s9,rfl⟩ hD
    rw[aU,if_pos FC]
    refine ⟨D,_,_,_,rfl,rfl,aJ.of ae,aA (j:=0) rfl,?_⟩
    have t2:=s9.trans (ai.upd (o:=HO.lst [V.int ((aq y).idxOf (PyProof.Rows.lo1 x):Nat)]) hD)
    have h3:=t2 _ _ h2
    have qB:=jC.same t2
    have y6:=FE.after t2
    generalize upd H9 D (HO.lst [V.int ((aq y).idxOf (PyProof.Rows.lo1 x):Nat)])=H3 at h3 qB y6 ⊢
    clear t2 jC FE h2 pF s9 hD tH
    have tP:=qB.oc o dU
    refine ⟨ol,_,_,_,rfl,rfl,aJ.of qB.od,aA BW,?_⟩
    refine Rf _ _ ?_
    refine aG fun Zl Wg=>?_
    refine ⟨_,rfl,a,_,4,_,rfl,rfl,aN.of h3,rfl,_,_,rfl,rfl,_,rfl,aT (decide_eq_true (by omega)) ⟨_,rfl,o.a,_,rfl, .inl (aJ.of tP),_,_,rfl,rfl,_,rfl,a_ (by rw[gb,decide_eq_true (by omega)];rfl) ?_⟩⟩
    refine Wg _ _ ?_
    refine aG fun N28 Zm=>?_
    refine ⟨_,rfl,a,_,3,_,rfl,rfl,aN.of h3,rfl,_,rfl,a,_,3,_,rfl,rfl,aN.of h3,rfl,x,rfl,wx,by show 2<=sizeLine;decide,fun pl IM=>?_⟩
    have MK:=qB.fresh IM
    have t3:=ai.upd (o:=HO.lst [V.str (S [x]),V.str (S [bL x])]) IM
    have gB:upd H3 pl (HO.lst [V.str (S [x]),V.str (S [bL x])]) pl=some (HO.lst [V.str (S [x]),V.str (S [bL x])]):=ae
    have h4:=t3 _ _ h3
    have Cp:=qB.same t3
    have IL:=y6.after t3
    generalize upd H3 pl (HO.lst [V.str (S [x]),V.str (S [bL x])])=H4 at h4 Cp IL gB ⊢
    clear t3 qB y6 h3 tP IM
    have MB:pl≠d:=fun z=>by rw[z,Cp.dk]at gB;cases gB
    have Wh:w.a∈uY wl ol Ws Os:=List.mem_cons_of_mem _ (List.mem_cons_of_mem _ (List.mem_append_left _ (List.mem_map.mpr ⟨w,jk,rfl⟩)))
    have Wi:o.a∈uY wl ol Ws Os:=List.mem_cons_of_mem _ (List.mem_cons_of_mem _ (List.mem_append_right _ (List.mem_map.mpr ⟨o,dU,rfl⟩)))
    have Oh:pl≠w.a:=fun z=>MK (by rw[z];exact Wh)
    have Zn:pl≠o.a:=fun z=>MK (by rw[z];exact Wi)
    have mw:w.a∈o5 d wl ol Ws Os:=List.mem_cons_of_mem _ Wh
    have mo:o.a∈o5 d wl ol Ws Os:=List.mem_cons_of_mem _ Wi
    have md:d∈o5 d wl ol Ws Os:=List.mem_cons_self
    have OT: ∀ls,(Ws.set c ⟨w.a,ls⟩).map Wc.a=Ws.map Wc.a:=fun ls=>by rw[List.map_set];exact set_same (by rw[List.getElem?_map,i6];rfl)
    have Zo: ∀ns,(Os.set ((aq y).idxOf (PyProof.Rows.lo1 x)) ⟨o.a,ns⟩).map Oc.a=Os.map Oc.a:=fun ns=>by rw[List.map_set];exact set_same (by rw[List.getElem?_map,ho];rfl)
    refine ⟨pl,rfl,⟨_,aJ.of gB⟩,?_⟩
    refine gk (K:=K) (a:=pl) (xs:=[V.str (S [x]),V.str (S [bL x])]) (fun i σ H'=> ∃(nl:List Lc) (sv lv:Option V),σ=[some (.str (S y)),some (.ref d),some (.ref a),some (.ref nm),some (.ref wl),some (.ref ol),some (.ref o.a),some (.ref w.a),none,none,sv,lv]/\nl.map Lc.pr=[(x,m),(bL x,m+1)].take i/\
      dH H' d wl ol (Ws.set c ⟨w.a,w.ls.take k++nl++w.ls.drop k⟩) (Os.set ((aq y).idxOf (PyProof.Rows.lo1 x)) ⟨o.a,o.ns.take n++[m,m+1].take i++o.ns.drop n⟩) (m+i)/\Fr (o5 d wl ol Ws Os) H H'/\H' pl=some (.lst [V.str (S [x]),V.str (S [bL x])])/\aC H4 H')
     ⟨[],none,none,rfl,rfl,by rw[List.take_zero,List.append_nil,List.append_nil,List.take_append_drop,List.take_append_drop,set_same i6,set_same ho,Nat.add_zero];exact Cp,IL,gB,aC.of (ai.refl _)⟩ (fun i σ H' _ ⟨_,_,_,_,_,_,_,h,_⟩=>aJ.of h) ?_ ?_
    ·rintro i v σ H5 T hv ⟨nl,sv,lv,rfl,p_,yE,EK,IQ,FA⟩ nT
     have LS:i<2:=(List.getElem?_eq_some_iff.mp hv).1
     obtain ⟨u,rfl,hu⟩: ∃u,v=V.str (S [u])/\[(x,m),(bL x,m+1)][i]? =some (u,m+i):=by
      rcases (by omega:i=0\/i=1) with z | z
      ·subst z;cases hv;exact ⟨x,rfl,rfl⟩
      ·subst z;cases hv;exact ⟨bL x,rfl,rfl⟩
     have Zp:nl.length=i:=by
      have:=congrArg List.length p_
      rw[List.length_map,List.length_take]at this
      simp at this
      omega
     have Zq:[m,m+1][i]? =some (m+i):=by
      rcases (by omega:i=0\/i=1) with z | z<;>(subst z;rfl)
     have JG:([m,m+1].take i).length=i:=by rw[List.length_take];simp;omega
     have sT:=ai.upd (o:=HO.tup [.int i, .str (S [u])]) nT
     refine ⟨T,_,rfl,aN.of ae,rfl,_,_,rfl,_,_,rfl,rfl,?_⟩
     have Cr:=yE.same sT
     have Rg:=EK.after sT
     have IS:=sT _ _ IQ
     have IU:=FA.trans (aC.of sT)
     generalize upd H5 T (HO.tup [.int i, .str (S [u])])=H6 at Cr Rg IS IU ⊢
     clear sT nT yE EK IQ FA
     have zr:(Ws.set c ⟨w.a,w.ls.take k++nl++w.ls.drop k⟩)[c]? =some ⟨w.a,w.ls.take k++nl++w.ls.drop k⟩:=List.getElem?_set_self hc
     have ML:=Cr.wc _ (List.mem_of_getElem? zr)
     have h6:=IU _ _ h4
     have gm: ∀{H':Hp} {m':Nat},H' d=some (HO.dK (sj wl ol m'))->cj H' d (V.str (S gq)) (some (.int (m':Nat))):=fun {H' m'} e=>by rw[<-sy wl ol m'];exact cj.k (k:=kS gq) e
     have JO:(w.ls.take k).length+nl.length=k+i:=by rw[List.length_take];omega
     have GN:(cT (w.ls.take k++nl++w.ls.drop k)).length=w.ls.length+i:=by rw[cJ,List.length_append,List.length_append,List.length_take,List.length_drop];omega
     refine aG fun N29 Zr=>?_
     refine ⟨_,rfl, .inl ⟨rfl,_,aJ.of ML⟩,_,rfl,a,_,2,_,rfl,rfl,aN.of h6,rfl,_,rfl,_,_,rfl,rfl,_,rfl,_,rfl,d,_,rfl,gm Cr.dk,by show 2<=sizeLine;decide,fun p np=>?_⟩
     have sp:=ai.upd (o:=HO.lst [V.str (S [u]),V.int ((m+i:Nat):Int)]) np
     have HZ:=Cr.fresh np
     have JQ:=Cr.same sp
     have Rh:=Rg.after sp
     have IV:=sp _ _ IS
     have Ri:=IU.trans (aC.of sp)
     have zp:upd H6 p (HO.lst [V.str (S [u]),V.int ((m+i:Nat):Int)]) p=some (HO.lst [V.str (S [u]),V.int ((m+i:Nat):Int)]):=ae
     generalize upd H6 p (HO.lst [V.str (S [u]),V.int ((m+i:Nat):Int)])=H7 at JQ Rh IV Ri zp ⊢
     clear sp np Cr Rg IS IU ML h6
     have IW:=JQ.wc _ (List.mem_of_getElem? zr)
     have Zs:(k:Int)+(i:Int)=((k+i:Nat):Int):=by omega
     refine ⟨w.a,_,k+i,V.ref p,rfl,by show [V.int ((k:Int)+(i:Int)),V.ref p]=_;rw[Zs],IW,by rw[GN];omega,by rw[GN];omega,?_⟩
     rw[DN (w.ls.take k) nl (w.ls.drop k) ⟨p,u,m+i⟩ JO]
     have JR:=JQ.L5 (ls:=w.ls.take k++(nl++[⟨p,u,m+i⟩])++w.ls.drop k) zr fun l hl=>by
      have:l∈w.ls.take k++nl++w.ls.drop k\/l=⟨p,u,m+i⟩:=by
       rcases List.mem_append.mp hl with g | g
       ·rcases List.mem_append.mp g with g | g
        ·exact .inl (List.mem_append_left _ (List.mem_append_left _ g))
        ·rcases List.mem_append.mp g with g | g
         ·exact .inl (List.mem_append_left _ (List.mem_append_right _ g))
         ·exact .inr (List.mem_singleton.mp g)
       ·exact .inl (List.mem_append_right _ g)
      rcases this with g | g
      ·exact ⟨JQ.lc _ (List.mem_of_getElem? zr) l g,JQ.nl _ (List.mem_of_getElem? zr) l g⟩
      ·rw[g];exact ⟨zp,HZ⟩
     rw[set_set]at JR
     have Rj:=Rh.upd (o:=HO.lst (cT (w.ls.take k++(nl++[⟨p,u,m+i⟩])++w.ls.drop k))) mw
     have IX:upd H7 w.a (HO.lst (cT (w.ls.take k++(nl++[⟨p,u,m+i⟩])++w.ls.drop k))) pl=_:=(aj Oh).trans IV
     have D9:=Ri.trans (aC.ja (o:=HO.lst (cT (w.ls.take k++(nl++[⟨p,u,m+i⟩])++w.ls.drop k))) IW)
     generalize upd H7 w.a (HO.lst (cT (w.ls.take k++(nl++[⟨p,u,m+i⟩])++w.ls.drop k)))=H8 at JR Rj IX D9 ⊢
     refine Zr _ _ ?_
     clear JQ Rh IV Ri IW zp HZ
     have h8:=D9 _ _ h4
     have Wj:(Os.set ((aq y).idxOf (PyProof.Rows.lo1 x)) ⟨o.a,o.ns.take n++[m,m+1].take i++o.ns.drop n⟩)[(aq y).idxOf (PyProof.Rows.lo1 x)]? =some ⟨o.a,o.ns.take n++[m,m+1].take i++o.ns.drop n⟩:=List.getElem?_set_self qA
     have Ee:=JR.oc _ (List.mem_of_getElem? Wj)
     have Rk:(o.ns.take n).length+([m,m+1].take i).length=n+i:=by rw[List.length_take,JG];omega
     have MM:(fH (o.ns.take n++[m,m+1].take i++o.ns.drop n)).length=o.ns.length+i:=by rw[gb,List.length_append,List.length_append,JG,List.length_take,List.length_drop];omega
     have Zt:(n:Int)+(i:Int)=((n+i:Nat):Int):=by omega
     refine aG fun N30 Zu=>?_
     refine ⟨_,rfl, .inl ⟨rfl,_,aJ.of Ee⟩,_,rfl,a,_,4,_,rfl,rfl,aN.of h8,rfl,_,rfl,_,_,rfl,rfl,_,rfl,d,_,rfl,gm JR.dk,?_⟩
     refine ⟨o.a,_,n+i,V.int ((m+i:Nat):Int),rfl,by show [V.int ((n:Int)+(i:Int)),V.int ((m+i:Nat):Int)]=_;rw[Zt],Ee,by rw[MM];omega,by rw[MM];omega,?_⟩
     rw[DO (o.ns.take n) ([m,m+1].take i) (o.ns.drop n) (m+i) Rk]
     have Zv:[m,m+1].take i++[m+i]=[m,m+1].take (i+1):=by rw[List.take_succ,Zq];rfl
     rw[Zv]
     have IZ:=JR.C6 (ns:=o.ns.take n++[m,m+1].take (i+1)++o.ns.drop n) Wj
     rw[set_set]at IZ
     have Wl:=Rj.upd (o:=HO.lst (fH (o.ns.take n++[m,m+1].take (i+1)++o.ns.drop n))) mo
     have MN:upd H8 o.a (HO.lst (fH (o.ns.take n++[m,m+1].take (i+1)++o.ns.drop n))) pl=_:=(aj Zn).trans IX
     have Wm:=D9.trans (aC.ja (o:=HO.lst (fH (o.ns.take n++[m,m+1].take (i+1)++o.ns.drop n))) Ee)
     change dH (upd H8 o.a (HO.lst (fH (o.ns.take n++[m,m+1].take (i+1)++o.ns.drop n)))) _ _ _ _ _ _ at IZ
     generalize upd H8 o.a (HO.lst (fH (o.ns.take n++[m,m+1].take (i+1)++o.ns.drop n)))=H9 at IZ Wl MN Wm ⊢
     refine Zu _ _ ?_
     clear JR Rj IX D9 Ee h8
     refine ⟨_,rfl,d,_,rfl,gm IZ.dk,_,_,rfl,rfl,_,rfl,d,_,rfl,mn.k (k:=kS gq) IZ.dk (by show 3<sizeLine;omega),?_⟩
     have ev:putK (sj wl ol (m+i)) (kS gq) (V.int (((m+i:Nat):Int)+1))=sj wl ol (m+(i+1)):=by rw[show ((m+i:Nat):Int)+1=((m+(i+1):Nat):Int) from by omega,DI]
     refine ⟨nl++[⟨p,u,m+i⟩],_,_,rfl,?_,by have:=IZ.setM (m+(i+1));rw[<-ev]at this;exact this,Wl.upd md,(aj MB).trans MN,Wm.trans (mV IZ.dk)⟩
     rw[List.map_append,p_,List.take_succ (i:=i),hu]
     rfl
    ·rintro σ H5 ⟨nl,sv,lv,rfl,p_,yE,EK,IQ,FA⟩
     refine Zm _ _ ?_
     refine q _ _ H5 yE ?_ ?_ (fun z hz=> .inr ?_) EK
     ·show (Ws.set c _).map Wc.w=(oW Ws).set c (((oW Ws).getD c []).take k++(x,m)::(bL x,m+1)::((oW Ws).getD c []).drop k)
      rw[aK i5,List.map_set]
      show (Ws.map Wc.w).set c ((w.ls.take k++nl++w.ls.drop k).map Lc.pr)=_
      rw[List.map_append,List.map_append,p_,List.map_drop,List.map_take,List.append_assoc]
      rfl
     ·show (Os.set _ _).map Oc.ns=(oO Os).set _ (((oO Os).getD _ []).take n++m::(m+1)::((oO Os).getD _ []).drop n)
      rw[aK eo,List.map_set]
      show (Os.map Oc.ns).set _ (o.ns.take n++[m,m+1]++o.ns.drop n)=_
      rw[List.append_assoc]
      rfl
     ·unfold o5 at hz ⊢
      rw[OT,Zo]at hz
      exact hz
 ·obtain ⟨y,d,wl,ol,a,Ws,Os,L,m,e,rfl,hy,Q1,hw,hW,hg,ha,o7,q⟩:=h
  have hs:(100000:Nat)<sizeLine:=by decide
  have zg:=cK hy
  have zj:=hg.kX
  have fz:=hg.lr
  have pE:(oW Ws).length=Ws.length:=mT Ws
  have V9:Ws.length<=4:=by rw[bU,pE]at zj;exact zj
  have BS:Os.length=L.length:=by have:=hW.ln;unfold oO at this;rwa [List.length_map]at this
  have Q8:=hg.ln
  refine aG fun N1 g1=>?_
  refine ⟨_,rfl,y,rfl,by omega,fun nm l2 H1 n1 nh jd jC s1=>?_⟩
  refine g1 _ _ ?_
  rw[eA hy.lt]at jd
  have el:=fS jd jC
  subst el
  have jb:=hw.same s1
  have zf:=ha.ts (aC.of s1)
  have gw:cj H1 d (V.str (S cX)) (some (.ref wl)):=by rw[<-kH wl ol m];exact cj.k (k:=kS cX) jb.dk
  have go:cj H1 d (V.str (S cI)) (some (.ref ol)):=by rw[<-jy wl ol m];exact cj.k (k:=kS cI) jb.dk
  refine aG fun N2 g2=>?_
  refine ⟨_,rfl,d,_,rfl,gw,_,rfl,d,_,rfl,go,_,_,rfl,?_⟩
  refine g2 _ _ ?_
  change i9 _ _ _ [some (.str (S y)),some (.ref d),some (.ref a),some (.ref nm),some (.ref wl),some (.ref ol),none,none,none,none,none,none] H1
  have qf: ∀H2,ai H1 H2->Q (.bl false) H2:=fun H2 s2=>q H2 (s1.trans s2)
  have q0:=qf _ (ai.refl _)
  cases e with
  | swap x n=>
   have h:H1 a=some (.tup [.str (S iy), .str (S x), .int n]):=zf
   refine aG fun N3 g3=>?_
   refine ⟨_,rfl,a,_,0,_,rfl,rfl,aN.of h,rfl,_,_,rfl,rfl,_,rfl,aT (by decide) ?_⟩
   refine aG fun N4 g4=>?_
   by_cases hx: ∃b∈aq y,x=[b]
   ·obtain ⟨b,hb,rfl⟩:=hx
    have hj:=List.idxOf_lt_length_of_mem hb
    have qA:(aq y).idxOf b<Os.length:=by omega
    have ho:Os[(aq y).idxOf b]? =some Os[(aq y).idxOf b]:=List.getElem?_eq_getElem qA
    generalize Os[(aq y).idxOf b]=o at ho
    have BW:(gC Os)[(aq y).idxOf b]? =some (V.ref o.a):=by unfold gC;rw[List.getElem?_map,ho];rfl
    have dU:=List.mem_of_getElem? ho
    have tP:=jb.oc o dU
    have eo:(oO Os)[(aq y).idxOf b]? =some o.ns:=by unfold oO;rw[List.getElem?_map,ho];rfl
    have hlen:o.ns.length=(L.getD ((aq y).idxOf b) []).length:=by
     have tQ:L[(aq y).idxOf b]? =some L[(aq y).idxOf b]:=List.getElem?_eq_getElem (by omega)
     rw[aK tQ]
     exact (hW.al _ _ _ eo tQ).len
    have g:=o7 b rfl hb
    rw[<-hlen]at g
    have ng:=jb.od
    refine ⟨_,rfl,a,_,1,_,rfl,rfl,aN.of h,rfl,_,rfl,nm,_,rfl, .inl (aJ.of nh),rfl,dJ _,_,rfl,a_ (by rw[if_pos rfl,iN,decide_eq_true hb];rfl) ?_⟩
    by_cases h0:0<=n
    ·refine ⟨_,rfl,a,_,2,_,rfl,rfl,aN.of h,rfl,_,_,rfl,rfl,_,rfl,aT (decide_eq_true h0) ?_⟩
     refine ⟨_,rfl,_,rfl, .inl ⟨rfl,_,aJ.of nh⟩,_,rfl,a,_,1,_,rfl,rfl,aN.of h,rfl,nm,aq y,b,rfl,rfl,nh,hb,?_⟩
     exact ⟨ol,_,_,_,rfl,rfl,aJ.of ng,aA BW,o.a,_,rfl, .inl (aJ.of tP),_,_,rfl,rfl,_,_,rfl,rfl,_,rfl,aT (by rw[gb,decide_eq_false (by omega)];rfl) q0⟩
    ·exact ⟨_,rfl,a,_,2,_,rfl,rfl,aN.of h,rfl,_,_,rfl,rfl,_,rfl,a_ (decide_eq_false h0) ⟨_,rfl,aT rfl q0⟩⟩
   ·exact ⟨_,rfl,a,_,1,_,rfl,rfl,aN.of h,rfl,_,rfl,nm,_,rfl, .inl (aJ.of nh),rfl,dJ _,_,rfl,aT (by rw[if_pos rfl,jA fun c hc z=>hx ⟨c,hc,z⟩];rfl) q0⟩
  | out c k=>
   have h:H1 a=some (.tup [.str (S mI), .int c, .int k]):=zf
   have jr:=jb.wd
   refine aG fun N7 g7=>?_
   refine ⟨_,rfl,a,_,0,_,rfl,rfl,aN.of h,rfl,_,_,rfl,rfl,_,rfl,a_ (by decide) ?_⟩
   refine g7 _ _ ?_
   refine aG fun N8 g8=>?_
   by_cases h0:0<=c
   ·by_cases h1:c<(Ws.length:Int)
    ·obtain ⟨i,rfl⟩: ∃i:Nat,c=(i:Int):=⟨c.toNat,by omega⟩
     have hc:i<Ws.length:=by omega
     have i6:Ws[i]? =some Ws[i]:=List.getElem?_eq_getElem hc
     generalize Ws[i]=w at i6
     have jk:=List.mem_of_getElem? i6
     have zq:(iC Ws)[i]? =some (V.ref w.a):=by unfold iC;rw[List.getElem?_map,i6];rfl
     have i5:(oW Ws)[i]? =some w.w:=by unfold oW;rw[List.getElem?_map,i6];rfl
     have pF:=jb.wc w jk
     refine ⟨_,rfl,a,_,1,_,rfl,rfl,aN.of h,rfl,_,_,rfl,rfl,_,rfl,aT (decide_eq_true h0) ⟨_,rfl,wl,_,rfl, .inl (aJ.of jr),_,_,rfl,rfl,_,rfl,a_ (by rw[cO,decide_eq_true h1];rfl) ?_⟩⟩
     refine g8 _ _ ?_
     refine aG fun N9 g9=>?_
     refine ⟨_,rfl,_,rfl,a,_,1,_,rfl,rfl,aN.of h,rfl,wl,_,_,_,rfl,rfl,aJ.of jr,aA zq,?_⟩
     refine g9 _ _ ?_
     change i9 _ _ _ [some (.str (S y)),some (.ref d),some (.ref a),some (.ref nm),some (.ref wl),some (.ref ol),none,some (.ref w.a),none,none,none,none] H1
     refine aG fun V_ MG=>?_
     refine ⟨_,rfl,a,_,0,_,rfl,rfl,aN.of h,rfl,_,_,rfl,rfl,_,rfl,a_ (by decide) ?_⟩
     refine MG _ _ ?_
     refine aG fun Wa Q_=>?_
     refine ⟨_,rfl,a,_,0,_,rfl,rfl,aN.of h,rfl,_,_,rfl,rfl,_,rfl,aT (by decide) ?_⟩
     refine aG fun Wb OR=>?_
     by_cases k0:0<=k
     ·by_cases k1:k<=(w.ls.length:Int) - 2
      ·obtain ⟨j,rfl⟩: ∃j:Nat,k=(j:Int):=⟨k.toNat,by omega⟩
       have jG:w.ls[j]? =some (w.ls[j]'(by omega)):=List.getElem?_eq_getElem (by omega)
       have qI:w.ls[j+1]? =some (w.ls[j+1]'(by omega)):=List.getElem?_eq_getElem (by omega)
       generalize (w.ls[j]'(by omega))=l0 at jG
       generalize (w.ls[j+1]'(by omega))=l1 at qI
       have x0:(w.w.map Prod.fst)[j]? =some l0.x:=by unfold Wc.w;rw[List.map_map,List.getElem?_map,jG];rfl
       have x1:(w.w.map Prod.fst)[j+1]? =some l1.x:=by unfold Wc.w;rw[List.map_map,List.getElem?_map,qI];rfl
       have g:=o7 i j rfl rfl (by rw[bU,pE];exact hc) l0.x
       rw[cq (by rw[pE];exact hc),aK i5]at g
       have g2:=g x0
       rw[x1]at g2
       have Wn:=(fz _ (List.mem_map.mpr ⟨w.w,List.mem_of_getElem? i5,rfl⟩)).1
       have Ak:Lt l0.x:=hy.lt _ (Wn _ (List.mem_of_getElem? x0))
       have vX:Lt l1.x:=hy.lt _ (Wn _ (List.mem_of_getElem? x1))
       have v0:(cT w.ls)[j]? =some (V.ref l0.a):=by unfold cT;rw[List.getElem?_map,jG];rfl
       have v1:(cT w.ls)[j+1]? =some (V.ref l1.a):=by unfold cT;rw[List.getElem?_map,qI];rfl
       have a0:=jb.lc w jk l0 (List.mem_of_getElem? jG)
       have a1:=jb.lc w jk l1 (List.mem_of_getElem? qI)
       have ek:(j:Int)+1=((j+1:Nat):Int):=by omega
       have gR: ¬l0.x=bL l1.x:=fun z=>g2 (by rw[z,cN vX])
       refine ⟨_,rfl,a,_,2,_,rfl,rfl,aN.of h,rfl,_,_,rfl,rfl,_,rfl,aT (decide_eq_true k0) ⟨_,rfl,w.a,_,rfl, .inl (aJ.of pF),_,_,rfl,rfl,_,_,rfl,rfl,_,rfl,a_ (by rw[cJ,decide_eq_true k1];rfl) ?_⟩⟩
       refine ⟨_,rfl,_,rfl,a,_,2,_,rfl,rfl,aN.of h,rfl,w.a,_,_,_,rfl,rfl,aJ.of pF,aA v0,l0.a,_,0,_,rfl,rfl,aJ.of a0,rfl,?_⟩
       refine ⟨_,rfl,_,rfl,a,_,2,_,rfl,rfl,aN.of h,rfl,_,_,rfl,rfl,w.a,_,_,_,rfl,rfl,aJ.of pF,by rw[ek];exact aA v1,l1.a,_,0,_,rfl,rfl,aJ.of a1,rfl,?_⟩
       exact ⟨l1.x,rfl,vX,[l0.x],[bL l1.x],rfl,rfl,_,rfl,aT (by simp[gR]) q0⟩
      ·exact ⟨_,rfl,a,_,2,_,rfl,rfl,aN.of h,rfl,_,_,rfl,rfl,_,rfl,aT (decide_eq_true k0) ⟨_,rfl,w.a,_,rfl, .inl (aJ.of pF),_,_,rfl,rfl,_,_,rfl,rfl,_,rfl,aT (by rw[cJ,decide_eq_false k1];rfl) q0⟩⟩
     ·exact ⟨_,rfl,a,_,2,_,rfl,rfl,aN.of h,rfl,_,_,rfl,rfl,_,rfl,a_ (decide_eq_false k0) ⟨_,rfl,aT rfl q0⟩⟩
    ·exact ⟨_,rfl,a,_,1,_,rfl,rfl,aN.of h,rfl,_,_,rfl,rfl,_,rfl,aT (decide_eq_true h0) ⟨_,rfl,wl,_,rfl, .inl (aJ.of jr),_,_,rfl,rfl,_,rfl,aT (by rw[cO,decide_eq_false h1];rfl) q0⟩⟩
   ·exact ⟨_,rfl,a,_,1,_,rfl,rfl,aN.of h,rfl,_,_,rfl,rfl,_,rfl,a_ (decide_eq_false h0) ⟨_,rfl,aT rfl q0⟩⟩
  | turn c=>
   have h:H1 a=some (.tup [.str (S gN), .int c]):=zf
   have jr:=jb.wd
   have Rl: ¬(0<=c/\c<(Ws.length:Int)):=by have g: ¬(0<=c/\c<((lets (oW Ws)).length:Int)):=o7;rwa [bU,pE]at g
   refine aG fun N7 g7=>?_
   refine ⟨_,rfl,a,_,0,_,rfl,rfl,aN.of h,rfl,_,_,rfl,rfl,_,rfl,a_ (by decide) ?_⟩
   refine g7 _ _ ?_
   refine aG fun N8 g8=>?_
   by_cases h0:0<=c
   ·exact ⟨_,rfl,a,_,1,_,rfl,rfl,aN.of h,rfl,_,_,rfl,rfl,_,rfl,aT (decide_eq_true h0) ⟨_,rfl,wl,_,rfl, .inl (aJ.of jr),_,_,rfl,rfl,_,rfl,aT (by rw[cO,decide_eq_false (by omega)];rfl) q0⟩⟩
   ·exact ⟨_,rfl,a,_,1,_,rfl,rfl,aN.of h,rfl,_,_,rfl,rfl,_,rfl,a_ (decide_eq_false h0) ⟨_,rfl,aT rfl q0⟩⟩
  | ins c k x n=>
   have h:H1 a=some (.tup [.str (S AR), .int c, .int k, .str (S x), .int n]):=zf
   have jr:=jb.wd
   refine aG fun N7 g7=>?_
   refine ⟨_,rfl,a,_,0,_,rfl,rfl,aN.of h,rfl,_,_,rfl,rfl,_,rfl,a_ (by decide) ?_⟩
   refine g7 _ _ ?_
   refine aG fun N8 g8=>?_
   by_cases h0:0<=c
   ·by_cases h1:c<(Ws.length:Int)
    ·obtain ⟨i,rfl⟩: ∃i:Nat,c=(i:Int):=⟨c.toNat,by omega⟩
     have hc:i<Ws.length:=by omega
     have i6:Ws[i]? =some Ws[i]:=List.getElem?_eq_getElem hc
     generalize Ws[i]=w at i6
     have jk:=List.mem_of_getElem? i6
     have zq:(iC Ws)[i]? =some (V.ref w.a):=by unfold iC;rw[List.getElem?_map,i6];rfl
     have i5:(oW Ws)[i]? =some w.w:=by unfold oW;rw[List.getElem?_map,i6];rfl
     have pF:=jb.wc w jk
     refine ⟨_,rfl,a,_,1,_,rfl,rfl,aN.of h,rfl,_,_,rfl,rfl,_,rfl,aT (decide_eq_true h0) ⟨_,rfl,wl,_,rfl, .inl (aJ.of jr),_,_,rfl,rfl,_,rfl,a_ (by rw[cO,decide_eq_true h1];rfl) ?_⟩⟩
     refine g8 _ _ ?_
     refine aG fun N9 g9=>?_
     refine ⟨_,rfl,_,rfl,a,_,1,_,rfl,rfl,aN.of h,rfl,wl,_,_,_,rfl,rfl,aJ.of jr,aA zq,?_⟩
     refine g9 _ _ ?_
     change i9 _ _ _ [some (.str (S y)),some (.ref d),some (.ref a),some (.ref nm),some (.ref wl),some (.ref ol),none,some (.ref w.a),none,none,none,none] H1
     refine aG fun V_ MG=>?_
     refine ⟨_,rfl,a,_,0,_,rfl,rfl,aN.of h,rfl,_,_,rfl,rfl,_,rfl,a_ (by decide) ?_⟩
     refine MG _ _ ?_
     refine aG fun Wa Q_=>?_
     refine ⟨_,rfl,a,_,0,_,rfl,rfl,aN.of h,rfl,_,_,rfl,rfl,_,rfl,a_ (by decide) ?_⟩
     refine Q_ _ _ ?_
     refine aG fun Wb OR=>?_
     refine ⟨_,rfl,a,_,3,_,rfl,rfl,aN.of h,rfl,_,rfl,y,rfl,by omega,fun p1 Ed=>?_⟩
     have t1:=ai.upd (o:=HO.lst (bO y)) Ed
     by_cases hx: ∃l∈y,x=[l]
     ·obtain ⟨x,m_,rfl⟩:=hx
      refine ⟨p1,_,rfl, .inl (aJ.of ae),rfl,dJ _,_,rfl,a_ (by rw[if_pos rfl,iN,decide_eq_true m_];rfl) ?_⟩
      have h2:=t1 _ _ h
      have jC:=jb.same t1
      have tH:=t1 _ _ nh
      have q2: ∀H3,ai (upd H1 p1 (HO.lst (bO y))) H3->Q (.bl false) H3:=fun H3 s=>qf _ (t1.trans s)
      generalize upd H1 p1 (HO.lst (bO y))=H2 at h2 jC tH q2 ⊢
      have pF:=jC.wc w jk
      have qq:=q2 _ (ai.refl _)
      have wx:Lt x:=hy.lt x m_
      have y_:=mC hy m_
      have FC:(aq y).idxOf (PyProof.Rows.lo1 x)<(aq y).length:=List.idxOf_lt_length_of_mem y_
      have xY:=oZ hy
      have qA:(aq y).idxOf (PyProof.Rows.lo1 x)<Os.length:=by omega
      have ho:Os[(aq y).idxOf (PyProof.Rows.lo1 x)]? =some Os[(aq y).idxOf (PyProof.Rows.lo1 x)]:=List.getElem?_eq_getElem qA
      generalize Os[(aq y).idxOf (PyProof.Rows.lo1 x)]=o at ho
      have BW:(gC Os)[(aq y).idxOf (PyProof.Rows.lo1 x)]? =some (V.ref o.a):=by unfold gC;rw[List.getElem?_map,ho];rfl
      have dU:=List.mem_of_getElem? ho
      have eo:(oO Os)[(aq y).idxOf (PyProof.Rows.lo1 x)]? =some o.ns:=by unfold oO;rw[List.getElem?_map,ho];rfl
      have tQ:L[(aq y).idxOf (PyProof.Rows.lo1 x)]? =some L[(aq y).idxOf (PyProof.Rows.lo1 x)]:=List.getElem?_eq_getElem (by omega)
      have hlen:o.ns.length=(L.getD ((aq y).idxOf (PyProof.Rows.lo1 x)) []).length:=by
       rw[aK tQ]
       exact (hW.al _ _ _ eo tQ).len
      have g:=o7 i x rfl (by rw[bU,pE];exact hc) rfl m_
      rw[cq (by rw[pE];exact hc),aK i5,List.length_map,Wc.nE, <-hlen]at g
      by_cases k0:0<=k
      ·by_cases k1:k<=(w.ls.length:Int)
       ·refine ⟨_,rfl,a,_,2,_,rfl,rfl,aN.of h2,rfl,_,_,rfl,rfl,_,rfl,aT (decide_eq_true k0) ⟨_,rfl,w.a,_,rfl, .inl (aJ.of pF),_,_,rfl,rfl,_,rfl,a_ (by rw[cJ,decide_eq_true k1];rfl) ?_⟩⟩
        refine OR _ _ ?_
        refine aG fun Zk Rf=>?_
        refine ⟨_,rfl,_,rfl,nm,rfl,⟨_,aJ.of tH⟩,?_⟩
        refine jt (K:=K) (a:=nm) (xs:=bO (aq y)) (fun i acc H'=>ai H2 H'/\acc=if (aq y).idxOf (PyProof.Rows.lo1 x)<i then [V.int ((aq y).idxOf (PyProof.Rows.lo1 x):Nat)] else []) (by rw[aU];omega) (fun i acc H' h=>aJ.of (h.1 _ _ tH)) ⟨ai.refl _,by simp⟩ ?_ ?_
        ·rintro i v acc H9 T Nx hv eZ ⟨s9,rfl⟩ nT nx
         obtain ⟨nb,ke,rfl⟩:=dB hv
         have BJ:=List.mem_of_getElem? ke
         have nH:=j7 hy BJ
         have BK:=iA xY ke
         refine ⟨T,_,rfl,aN.of ae,rfl,_,_,rfl,_,_,rfl,rfl,?_⟩
         have sT:=s9.trans (ai.upd (o:=HO.tup [.int i, .str (S [nb])]) nT)
         refine ⟨⟨rfl,trivial⟩,?_⟩
         refine ⟨_,rfl,a,_,3,_,rfl,rfl,aN.of (sT _ _ h2),rfl,_,rfl,_,rfl,nb,rfl, .inl nH,by show 2<=sizeLine;decide,fun t nt=>?_⟩
         refine ⟨t,_,rfl, .inr (aN.of ae),rfl,rfl,_,rfl,?_⟩
         have BL:=sT.trans (ai.upd (o:=HO.tup [.str (S [nb]), .str (S [bL nb])]) nt)
         generalize upd (upd H9 T (HO.tup [.int i, .str (S [nb])])) t (HO.tup [.str (S [nb]), .str (S [bL nb])])=D_ at BL ⊢
         show if qV (.str (S [x])) [.str (S [nb]), .str (S [bL nb])]=true then _ else _
         rw[lL]
         have E_:(decide (x=nb)||decide (x=bL nb))=decide (PyProof.Rows.lo1 x=nb):=(qj nH wx).symm
         rw[E_]
         refine eu (fun v1=>?_) (fun v1=>?_)
         ·have e1:PyProof.Rows.lo1 x=nb:=of_decide_eq_true v1
          have BM:(aq y).idxOf (PyProof.Rows.lo1 x)=i:=by rw[e1];exact BK
          refine ⟨_,rfl,nx _ _ (by simpa using eZ) ⟨BL,?_⟩⟩
          rw[BM,if_neg (Nat.lt_irrefl _),if_pos (Nat.lt_succ_self _)]
          rfl
         ·have e1: ¬PyProof.Rows.lo1 x=nb:=fun g=>v1 (decide_eq_true g)
          refine nx _ _ (Nat.le_succ_of_le eZ) ⟨BL,?_⟩
          have e2:(aq y).idxOf (PyProof.Rows.lo1 x)≠i:=fun g=>e1 (by
           have e3:=List.getElem_idxOf FC
           have e4:=(List.getElem?_eq_some_iff.mp ke).2
           rw[<-e3, <-e4]
           congr 1)
          by_cases g:(aq y).idxOf (PyProof.Rows.lo1 x)<i
          ·rw[if_pos g,if_pos (by omega)]
          ·rw[if_neg g,if_neg (by omega)]
        ·rintro acc H9 D eZ ⟨s9,rfl⟩ hD
         rw[aU,if_pos FC]
         refine ⟨D,_,_,_,rfl,rfl,aJ.of ae,aA (j:=0) rfl,?_⟩
         have t2:=s9.trans (ai.upd (o:=HO.lst [V.int ((aq y).idxOf (PyProof.Rows.lo1 x):Nat)]) hD)
         have h3:=t2 _ _ h2
         have qB:=jC.same t2
         have q3:=q2 _ t2
         generalize upd H9 D (HO.lst [V.int ((aq y).idxOf (PyProof.Rows.lo1 x):Nat)])=H3 at h3 qB q3 ⊢
         have tP:=qB.oc o dU
         refine ⟨ol,_,_,_,rfl,rfl,aJ.of qB.od,aA BW,?_⟩
         refine Rf _ _ ?_
         refine aG fun Zl Wg=>?_
         by_cases n0:0<=n
         ·exact ⟨_,rfl,a,_,4,_,rfl,rfl,aN.of h3,rfl,_,_,rfl,rfl,_,rfl,aT (decide_eq_true n0) ⟨_,rfl,o.a,_,rfl, .inl (aJ.of tP),_,_,rfl,rfl,_,rfl,aT (by rw[gb,decide_eq_false (by omega)];rfl) q3⟩⟩
         ·exact ⟨_,rfl,a,_,4,_,rfl,rfl,aN.of h3,rfl,_,_,rfl,rfl,_,rfl,a_ (decide_eq_false n0) ⟨_,rfl,aT rfl q3⟩⟩
       ·exact ⟨_,rfl,a,_,2,_,rfl,rfl,aN.of h2,rfl,_,_,rfl,rfl,_,rfl,aT (decide_eq_true k0) ⟨_,rfl,w.a,_,rfl, .inl (aJ.of pF),_,_,rfl,rfl,_,rfl,aT (by rw[cJ,decide_eq_false k1];rfl) qq⟩⟩
      ·exact ⟨_,rfl,a,_,2,_,rfl,rfl,aN.of h2,rfl,_,_,rfl,rfl,_,rfl,a_ (decide_eq_false k0) ⟨_,rfl,aT rfl qq⟩⟩
     ·exact ⟨p1,_,rfl, .inl (aJ.of ae),rfl,dJ _,_,rfl,aT (by rw[if_pos rfl,jA fun c hc z=>hx ⟨c,hc,z⟩];rfl) (qf _ t1)⟩
    ·exact ⟨_,rfl,a,_,1,_,rfl,rfl,aN.of h,rfl,_,_,rfl,rfl,_,rfl,aT (decide_eq_true h0) ⟨_,rfl,wl,_,rfl, .inl (aJ.of jr),_,_,rfl,rfl,_,rfl,aT (by rw[cO,decide_eq_false h1];rfl) q0⟩⟩
   ·exact ⟨_,rfl,a,_,1,_,rfl,rfl,aN.of h,rfl,_,_,rfl,rfl,_,rfl,a_ (decide_eq_false h0) ⟨_,rfl,aT rfl q0⟩⟩
theorem BX:cD P w K mg base iK 1 Fo Ow ["_law_world"] (sq K):=by
 refine T.Iq.fn.ok eU (fun vs H Q E h=>x_ h) (fun dS A outer s H vs Q E hr h=>?_)
 refine ⟨_,(ag (aB (i:=1) eU.nd rfl (Or.inr rfl) rq)
   (ag (cn PassesOwn.never rfl (fE K rfl rfl T.z_enumerate (aa (bW (cH hr) (pv 0) (bR [119,111,114,100,115] (by decide+kernel)) (fun _ _=>rfl)) af)) (ck (n:=2) K rfl rfl (aP (aD (i:=2) eU.nd rfl (Or.inl rfl)) (aP (aD (i:=3) eU.nd rfl (Or.inl rfl)) bV))) (ak (cn PassesOwn.never rfl (fE K rfl rfl T.z_enumerate (aa (pv 3) af)) (ck (n:=2) K rfl rfl (aP (aD (i:=4) eU.nd rfl (Or.inl rfl)) (aP (vU (n:=2) K rfl rfl (aP (aD (i:=5) eU.nd rfl (Or.inl rfl)) (aP (aD (i:=6) eU.nd rfl (Or.inl rfl)) bV))) bV))) (ak (jZ (cH hr) (pv 1) (pv 6) (bA (aa (pv 2) (aa (pv 4) af))) rfl)))))
   (ag (aB (i:=7) eU.nd rfl (Or.inl rfl) (bb (br K rfl) rfl T.z_tuple boot_tuple (aa (bS ["_law_word_here"] [none] (eP K rfl (bW (cH hr) (pv 0) (bR [119,111,114,100,115] (by decide+kernel)) (fun _ _=>rfl))) trivial (fun _ _ _ _=>(aD (i:=0) (by decide+kernel:List.Nodup (["_law_word_here"]:List Str)) rfl (Or.inl rfl))) (fun _ _ _ _=>hV) (fun _ _ _ _=>(bB K rfl PySem.F.plainAttrs_str PySem.F.slot_str_join PySem.F.type_str_join (mf K rfl) (bR [] (by decide+kernel)) (aa (bS ["_law_letter","_law_number"] [none,none] (eP K rfl (pv 0)) trivial (fun _ _ _ _=>(vU (n:=2) K rfl rfl (aP (aD (i:=0) (by decide+kernel:List.Nodup (["_law_letter","_law_number"]:List Str)) rfl (Or.inl rfl)) (aP (aD (i:=1) (by decide+kernel:List.Nodup (["_law_letter","_law_number"]:List Str)) rfl (Or.inl rfl)) bV)))) (fun _ _ _ _=>hV) (fun _ _ _ _=>(pv 0))) af)))) af)))
   (ak (aQ (bA (aa (pv 7) (aa (bb (br K rfl) rfl T.z_tuple boot_tuple (aa (bS ["_law_order_here","_law_strand"] [none,some 1] (eP K rfl (bW (cH hr) (pv 0) (bR [111,114,100,101,114,115] (by decide+kernel)) (fun _ _=>rfl))) ⟨⟨rfl,rfl,by first | exact .inl rfl | exact .inr rfl⟩,trivial⟩ (fun _ _ _ _=>(aD (i:=0) (by decide+kernel:List.Nodup (["_law_order_here","_law_strand"]:List Str)) rfl (Or.inl rfl))) (fun _ _ _ _=>hV) (fun _ _ _ _=>(bb (br K rfl) rfl T.z_tuple boot_tuple (aa (bS ["_law_number","_law_strand"] [none,some 1] (eP K rfl (pv 0)) ⟨⟨rfl,rfl,by first | exact .inl rfl | exact .inr rfl⟩,trivial⟩ (fun _ _ _ _=>(aD (i:=0) (by decide+kernel:List.Nodup (["_law_number","_law_strand"]:List Str)) rfl (Or.inl rfl))) (fun _ _ _ _=>hV) (fun _ _ _ _=>(bW (cH hr) (pv 1) (pv 0) (fun _ _=>rfl)))) af)))) af)) af)))))))),?_⟩
 obtain ⟨y,d,wl,ol,Ws,Os,L,m,rfl,hy,Q1,hw,hW,hg,hm,q⟩:=h
 have zg:=cK hy
 have hs:(100000:Nat)<sizeLine:=by decide
 have zj:=hg.kX
 have fz:=hg.lr
 walk_at "wk"
 intro sd Wo
 have s1:=ai.upd (o:=HO.dK []) Wo
 have Wq:upd H sd (HO.dK []) sd=some (HO.dK []):=ae
 generalize upd H sd (HO.dK [])=H1 at s1 Wq ⊢
 have QG:=s1 _ _ hw.dk
 have own:=hW.own
 have Ef: ∀{a:Addr} {u:HO},H a=some u->a≠sd:=fun e=>ao e Wo
 have gw: ∀H',H' d=some (HO.dK (sj wl ol m))->cj H' d (V.str (S cX)) (some (.ref wl)):=fun H' e=>by rw[<-kH wl ol m];exact cj.k (k:=kS cX) e
 have go: ∀H',H' d=some (HO.dK (sj wl ol m))->cj H' d (V.str (S cI)) (some (.ref ol)):=fun H' e=>by rw[<-jy wl ol m];exact cj.k (k:=kS cI) e
 have pE:(oW Ws).length=Ws.length:=mT Ws
 have V9:Ws.length<=4:=by rw[bU,pE]at zj;exact zj
 refine ⟨_,rfl,d,_,rfl,gw _ QG,wl,rfl,⟨_,aJ.of (s1 _ _ hw.wd)⟩,?_⟩
 refine gk (K:=K) (a:=wl) (xs:=iC Ws) (fun j σ H'=> ∃(kvs:List (Key×V)) (cv wv iv lv nv:Option V),σ=[some (.ref d),some (.ref sd),cv,wv,iv,lv,nv,none]/\H' sd=some (.dK kvs)/\mU ((oW Ws).take j) kvs H'/\kvs.length<=40*j/\aI sd H1 H')
  ⟨[],none,none,none,none,none,rfl,Wq,fun n p ⟨_,_,h,_⟩=>by simp at h,Nat.zero_le _,aI.refl _ _⟩ (fun j σ H' _ ⟨_,_,_,_,_,_,_,_,_,_,h⟩=>aJ.of (h _ _ (s1 _ _ hw.wd) (Ef hw.wd))) ?_ ?_
 ·rintro j x σ H2 T hx ⟨kvs,cv,wv,iv,lv,nv,rfl,nr,iJ,Cb,s2⟩ nT
  obtain ⟨c,hc,rfl⟩:=A_ hx
  have jk:=List.mem_of_getElem? hc
  have i5:(oW Ws)[j]? =some c.w:=by unfold oW;rw[List.getElem?_map,hc];rfl
  have hj:j<Ws.length:=(List.getElem?_eq_some_iff.mp hc).1
  have yF:c.ls.length<=40:=by
   have:=(fz _ (List.mem_map.mpr ⟨c.w,List.mem_of_getElem? i5,rfl⟩)).2
   rwa [List.length_map,Wc.nE]at this
  have Zw:((oW Ws).take j).length=j:=by rw[List.length_take];omega
  refine ⟨T,_,rfl,aN.of ae,rfl,_,_,rfl,_,_,rfl,rfl,?_⟩
  have sT:=ai.upd (o:=HO.tup [.int j, .ref c.a]) nT
  have Wr:=sT _ _ nr
  have y0:=iJ.ts (aC.of sT)
  have s3:aI sd H1 (upd H2 T (HO.tup [.int j, .ref c.a])):=fun a u e z=>sT _ _ (s2 a u e z)
  generalize upd H2 T (HO.tup [.int j, .ref c.a])=H3 at Wr y0 s3 ⊢
  clear sT nT nr iJ s2
  have Wt: ∀H',aI sd H1 H'->H' c.a=some (.lst (cT c.ls)):=fun H' s=>s _ _ (s1 _ _ (hw.wc c jk)) (Ef (hw.wc c jk))
  refine ⟨_,rfl,c.a,rfl,⟨_,aJ.of (Wt _ s3)⟩,?_⟩
  refine gk (K:=K) (a:=c.a) (xs:=cT c.ls) (fun k σ H'=> ∃(kvs:List (Key×V)) (iv lv nv:Option V),σ=[some (.ref d),some (.ref sd),some (.int j),some (.ref c.a),iv,lv,nv,none]/\H' sd=some (.dK kvs)/\mU ((oW Ws).take j++[c.w.take k]) kvs H'/\kvs.length<=40*j+k/\aI sd H1 H')
   ⟨kvs,iv,lv,nv,rfl,Wr,y0.nil,by omega,s3⟩ (fun k σ H' _ ⟨_,_,_,_,_,_,_,_,h⟩=>aJ.of (Wt _ h)) ?_ ?_
  ·rintro k x σ H4 T2 hx ⟨I_,Zx,Zy,Zz,rfl,JS,Ce,Wu,s4⟩ Iy
   obtain ⟨l,hl,rfl⟩:=Ba hx
   have hk:k<c.ls.length:=(List.getElem?_eq_some_iff.mp hl).1
   have ze:c.w[k]? =some (l.x,l.n):=by unfold Wc.w;rw[List.getElem?_map,hl];rfl
   have IK:=hw.lc c jk l (List.mem_of_getElem? hl)
   have sT:=ai.upd (o:=HO.tup [.int k, .ref l.a]) Iy
   have MO:=sT _ _ JS
   have y7:=Ce.ts (aC.of sT)
   have s5:aI sd H1 (upd H4 T2 (HO.tup [.int k, .ref l.a])):=fun a u e z=>sT _ _ (s4 a u e z)
   refine ⟨T2,_,rfl,aN.of ae,rfl,_,_,rfl,_,_,rfl,l.a,_,rfl,aJ.of (s5 _ _ (s1 _ _ IK) (Ef IK)),rfl,_,_,rfl,_,_,rfl,rfl,rfl,?_⟩
   generalize upd H4 T2 (HO.tup [.int k, .ref l.a])=H5 at MO y7 s5 ⊢
   clear sT Iy JS Ce s4
   refine ⟨_,rfl,_,rfl,by show 2<=sizeLine;decide,fun t nt=>?_⟩
   have s6:=ai.upd (o:=HO.tup [V.int j,V.int k]) nt
   refine ⟨_,rfl,_,rfl,sd,_,rfl,mn.k (k:=kI l.n) (s6 _ _ MO) (by omega),?_⟩
   have ZC:aC (upd H5 t (HO.tup [V.int j,V.int k])) (upd (upd H5 t (HO.tup [V.int j,V.int k])) sd (.dK (putK I_ (kI l.n) (.ref t)))):=mV (s6 _ _ MO)
   have Wv:c.w.take (k+1)=c.w.take k++[(l.x,l.n)]:=by rw[List.take_succ,ze];rfl
   have ZD:(c.w.take k).length=k:=by rw[List.length_take,Wc.nE];omega
   refine ⟨_,_,_,_,rfl,ae,?_,Nat.le_trans (fQ _ _ _) (by omega),fun a u e z=>by rw[aj z];exact s6 _ _ (s5 a u e z)⟩
   rw[Wv]
   exact ((y7.ts (aC.of s6)).put (by rw[<-Wv];exact A9 own i5) (by rw[Zw,ZD];exact ae)).ts ZC
  ·rintro σ H4 ⟨I_,Zx,Zy,Zz,rfl,JS,Ce,Wu,s4⟩
   rw[cJ]at Ce Wu
   refine ⟨I_,_,_,_,_,_,rfl,JS,?_,by omega,s4⟩
   rw[<-Wc.nE,List.take_length]at Ce
   rw[List.take_succ,i5]
   exact Ce
 ·rintro σ H2 ⟨kvs,cv,wv,iv,lv,nv,rfl,nr,iJ,Cb,s2⟩
  rw[cO, <-pE,List.take_length]at iJ
  have tF:ai H H2:=fun a u e=>s2 _ _ (s1 _ _ e) (Ef e)
  have hd2:=tF _ _ hw.dk
  refine ⟨_,rfl,d,_,rfl,gw _ hd2,wl,rfl,⟨_,aJ.of (tF _ _ hw.wd)⟩,?_⟩
  refine iL (K:=K) (a:=wl) (xs:=iC Ws) (fun i acc H'=>acc=bX ((lets (oW Ws)).take i)/\ai H2 H') (by rw[cO];omega) (fun i acc H' ⟨_,h⟩=>aJ.of (h _ _ (tF _ _ hw.wd))) ⟨rfl,ai.refl _⟩ ?_ ?_
  ·rintro i x acc H3 Nx hi hx eZ ⟨rfl,s3⟩ nx
   obtain ⟨c,hc,rfl⟩:=A_ hx
   have jk:=List.mem_of_getElem? hc
   have i5:(oW Ws)[i]? =some c.w:=by unfold oW;rw[List.getElem?_map,hc];rfl
   have yF:(lets (oW Ws))[i]? =some (c.w.map Prod.fst):=by unfold lets;rw[List.getElem?_map,i5];rfl
   have hz:=(fz _ (List.mem_of_getElem? yF)).2
   have NS:c.ls.length<=40:=by rwa [List.length_map,Wc.nE]at hz
   have zk:=tF.trans s3
   refine ⟨trivial,fR ?_⟩
   refine ⟨rfl,_,rfl,c.a,rfl,⟨_,aJ.of (zk _ _ (hw.wc c jk))⟩,?_⟩
   refine iL (K:=K) (a:=c.a) (xs:=cT c.ls) (fun k acc H'=>acc=bO ((c.w.map Prod.fst).take k)/\H'=H3) (by rw[cJ];omega) (fun k acc H' ⟨_,e⟩=>by rw[e];exact aJ.of (zk _ _ (hw.wc c jk))) ⟨rfl,rfl⟩ ?_ ?_
   ·rintro k x acc H4 Nx4 hk hx MP ⟨rfl,rfl⟩ ZE
    obtain ⟨l,hl,rfl⟩:=Ba hx
    have ze:(c.w.map Prod.fst)[k]? =some l.x:=by unfold Wc.w;rw[List.map_map,List.getElem?_map,hl];rfl
    refine ⟨l.a,_,rfl,aJ.of (zk _ _ (hw.lc c jk l (List.mem_of_getElem? hl))),rfl,_,_,rfl,_,_,rfl,rfl,⟨trivial,fR ?_⟩⟩
    exact ⟨_,rfl,ZE _ _ (by simpa using MP) ⟨ye _ _ _ ze,rfl⟩⟩
   ·rintro acc H4 D MP ⟨rfl,rfl⟩ hD
    rw[cJ, <-Wc.nE, <-List.length_map (f:=Prod.fst),List.take_length]
    refine ⟨D,(c.w.map Prod.fst).map fun c=>[c],rfl,rfl,aJ.of ?_,?_,?_⟩
    ·rw[ae, <-gn]
    ·rw[Dz];omega
    ·rw[wb]
     exact nx _ _ (by simpa using eZ) ⟨yc _ _ _ yF,s3.trans (ai.upd hD)⟩
  ·rintro acc H3 D eZ ⟨rfl,s3⟩ hD
   rw[cO, <-pE, <-bU,List.take_length]
   refine ⟨D,_,rfl, .inl ⟨aJ.of ae,fun tw OX=>?_⟩⟩
   have s4:=(s3.trans (ai.upd (o:= .lst (bX (lets (oW Ws)))) hD)).trans (ai.upd (o:= .tup (bX (lets (oW Ws)))) OX)
   have MQ:upd (upd H3 D (.lst (bX (lets (oW Ws))))) tw (.tup (bX (lets (oW Ws)))) tw=some (.tup (bX (lets (oW Ws)))):=ae
   generalize upd (upd H3 D (.lst (bX (lets (oW Ws))))) tw (.tup (bX (lets (oW Ws))))=H4 at s4 MQ ⊢
   clear s3 hD OX
   have qH:=tF.trans s4
   have lP:=qH _ _ hw.dk
   have JS:=s4 _ _ nr
   have Ce:=iJ.ts (aC.of s4)
   have BS:Os.length=L.length:=by have:=hW.ln;unfold oO at this;rwa [List.length_map]at this
   refine ⟨_,rfl,_,rfl,d,_,rfl,go _ lP,ol,rfl,⟨_,aJ.of (qH _ _ hw.od)⟩,?_⟩
   refine iL (K:=K) (a:=ol) (xs:=gC Os) (fun i acc H'=>ai H4 H'/\ ∃oo:List Od,acc=lG oo/\(∀o∈oo,gI H' o)/\oo.map bw=L.take i) (by rw[qv,BS,hg.ln];omega) (fun i acc H' ⟨h,_⟩=>aJ.of (h _ _ (qH _ _ hw.od))) ⟨ai.refl _,[],rfl,fun _ h=>absurd h List.not_mem_nil,rfl⟩ ?_ ?_
   ·rintro i x acc H5 Nx hi hx eZ ⟨s5,oo,rfl,v7,vV⟩ nx
    obtain ⟨o,ho,rfl⟩:=Bb hx
    have dU:=List.mem_of_getElem? ho
    have ZF:i<L.length:=by rw[<-BS];exact (List.getElem?_eq_some_iff.mp ho).1
    have FD:L[i]? =some L[i]:=List.getElem?_eq_getElem ZF
    generalize L[i]=l at FD
    have al:=hW.al i o.ns l (by unfold oO;rw[List.getElem?_map,ho];rfl) FD
    have MF:=hg.HW FD
    have FF:=hg.small FD
    have p_:=al.len
    have ve:=qH.trans s5
    have MO:=s5 _ _ JS
    have y7:=Ce.ts (aC.of s5)
    refine ⟨⟨rfl,trivial⟩,fR ?_⟩
    refine ⟨_,rfl,o.a,rfl,⟨_,aJ.of (ve _ _ (hw.oc o dU))⟩,?_⟩
    refine iL (K:=K) (a:=o.a) (xs:=fH o.ns) (fun k acc H'=>H'=H5/\ ∃ps:List Pr,acc=de ps/\(∀p∈ps,f_ H5 p)/\ps.map Pr.pair=l.take k) (by rw[gb];omega) (fun k acc H' ⟨e,_⟩=>by rw[e];exact aJ.of (ve _ _ (hw.oc o dU))) ⟨rfl,[],rfl,fun _ h=>absurd h List.not_mem_nil,rfl⟩ ?_ ?_
    ·rintro k x acc H6 Y1 hk hx BU ⟨rfl,ps,rfl,qG,pw⟩ Q5
     rw[gb]at hk
     have xu:x=V.int (o.ns[k]:Nat):=by
      unfold fH at hx
      rw[List.getElem?_map,List.getElem?_eq_getElem hk]at hx
      exact (Option.some.inj hx).symm
     subst xu
     have ze:l[k]? =some l[k]:=List.getElem?_eq_getElem (by omega)
     have hr:=al.at (List.getElem?_eq_getElem hk) ze
     obtain ⟨t,e1,e2⟩:=y7 _ _ hr
     obtain ⟨z1,z2⟩:=FF _ (List.mem_of_getElem? ze)
     generalize l[k]=pp at ze e2 z1 z2
     refine ⟨⟨rfl,trivial⟩,fR ?_⟩
     refine ⟨_,rfl,_,rfl,sd,_,rfl,by rw[<-e1];exact cj.k (k:=kI o.ns[k]) MO,?_⟩
     refine Q5 _ _ (by simpa using BU) ⟨rfl,ps++[⟨t,pp.1,pp.2⟩],ir ps ⟨t,pp.1,pp.2⟩,fun p hp=>?_,by rw[List.map_append,pw,List.take_succ,ze];rfl⟩
     rcases List.mem_append.mp hp with g | g
     ·exact qG p g
     ·rw[List.mem_singleton.mp g];exact ⟨e2,z1,z2⟩
    ·rintro acc H6 D BU ⟨rfl,ps,rfl,qG,pw⟩ hD
     rw[gb,p_,List.take_length]at pw
     refine ⟨D,_,rfl, .inl ⟨aJ.of ae,fun t nt=>?_⟩⟩
     have s7:=(ai.upd (o:= .lst (de ps)) hD).trans (ai.upd (o:= .tup (de ps)) nt)
     refine nx _ _ (by simpa using eZ) ⟨s5.trans s7,oo++[⟨t,ps⟩],mD oo ⟨t,ps⟩,fun o' gf=>?_,?_⟩
     ·rcases List.mem_append.mp gf with g | g
      ·exact (v7 o' g).same s7
      ·rw[List.mem_singleton.mp g]
       refine ⟨ae,fun p hp=>(qG p hp).same s7,?_⟩
       have:=congrArg List.length pw
       rw[List.length_map]at this
       show ps.length<=200
       omega
     ·rw[List.map_append,vV,List.take_succ,FD]
      show _++[bw ⟨t,ps⟩]=_
      unfold bw
      rw[pw];rfl
   ·rintro acc H5 D eZ ⟨s5,oo,rfl,v7,vV⟩ hD
    rw[qv,BS,List.take_length]at vV
    refine ⟨D,_,rfl, .inl ⟨aJ.of ae,fun t nt=>?_⟩⟩
    refine ⟨by show 2<=sizeLine;decide,fun lO BF=>?_⟩
    have sA:=(ai.upd (o:= .lst (lG oo)) hD).trans ((ai.upd (o:= .tup (lG oo)) nt).trans (ai.upd (o:= .tup [.ref tw, .ref t]) BF))
    have Mf:t≠lO:=fun z=>by rw[<-z,ae]at BF;cases BF
    exact q lO oo _ ⟨⟨tw,t,ae,sA _ _ (s5 _ _ MQ),by rw[aj Mf,ae]⟩,fun o ho=>(v7 o ho).same sA⟩ vV ((qH.trans s5).trans sA)
theorem BY:cD P w K mg base iK 3 Ft OA ["_law_yard_here","_law_drawing_here","_law_deeds"] (sX K):=by
 have yG:=vi (P:=P) (w:=w) (base:=base) T
 have Eg:=BV (P:=P) (w:=w) (base:=base) T
 have Eh:=BX (P:=P) (w:=w) (base:=base) T
 refine T.Cj.fn.ok kc (fun vs H Q E h=>ym h) (fun dS A outer s H vs Q E hr h=>?_)
 refine ⟨_,(ag (aB (i:=3) kc.nd rfl (Or.inl rfl) (ay yG (hr.mono (by decide)) rfl T.Ip.mg T.Ip.fn.kp T.Ip.bd .nil aR (aa (pv 1) af)))
   (ag (cn PassesOwn.never rfl (fE K rfl rfl T.z_enumerate (aa (pv 2) af)) (ck (n:=2) K rfl rfl (aP (aD (i:=4) kc.nd rfl (Or.inl rfl)) (aP (aD (i:=5) kc.nd rfl (Or.inl rfl)) bV))) (ak (bH (cU (fW (ay Eg (hr.mono (by decide)) rfl T.Ir.mg T.Ir.fn.kp T.Ir.bd .nil aR (aa (pv 0) (aa (pv 3) (aa (pv 5) af)))))) (ak (aQ (bt (aa (bR [114,101,102,117,115,101,100] (by decide+kernel)) (aa (pv 4) af))))) aY)))
   (ak (aQ (ay Eh (hr.mono (by decide)) rfl T.Iq.mg T.Iq.fn.kp T.Iq.bd .nil aR (aa (pv 3) af)))))),?_⟩
 obtain ⟨y,dr,ws,os,ep,ds,rfl,hy,hz,hg,hd,FG,MR,JT,hE⟩:=h
 generalize hP:(fun (fN:List (List Nat)) (L':cy)=> ∀(lO:Addr) (os':List Od) (H':Hp),e_ H' lO fN os'->os'.map bw=L'->Good y fN (os'.map bw)->ai H H'->Q (.ref lO) H')=P0 at hE
 generalize hR:(fun k:Nat=> ∀(p:Addr) (H':Hp),H' p=some (.lst [.str (S iE), .int k])->ai H H'->Q (.ref p) H')=R0 at hE
 have hs:(100000:Nat)<sizeLine:=by decide
 refine ⟨_,rfl,y,dr,ws,os,rfl,hy,hz,hg,hd,fun d wl ol Ws Os m H1 jb Rm qI ZG OH s1=>?_⟩
 refine ⟨_,rfl,ep,rfl,⟨_,aJ.of (s1 _ _ FG)⟩,?_⟩
 refine gk (K:=K) (a:=ep) (xs:=kJ ds) (fun i σ H'=> ∃(av dv:Option V) (Ws:List Wc) (Os:List Oc) (L:cy) (m:Nat),σ=[some (.str (S y)),some (.ref dr),some (.ref ep),some (.ref d),av,dv]/\dH H' d wl ol Ws Os m/\Wd (oW Ws) (oO Os) L m/\Good y (lets (oW Ws)) L/\m<=160+2*i/\(∀x∈o5 d wl ol Ws Os,H x=none)/\Ends y P0 R0 i (lets (oW Ws)) L ((ds.drop i).map Rr.r)/\ai H H')
  ⟨none,none,Ws,Os,os.map bw,m,rfl,jb,ZG,by rw[qI];exact hg,by omega,Rm,by rw[qI];exact hE,s1⟩ (fun i σ H' _ ⟨_,_,_,_,_,_,_,_,_,_,_,_,_,s⟩=>aJ.of (s _ _ FG)) ?_ ?_
 ·rintro i x σ H5 T hx ⟨av,dv,Ws,Os,L,m,rfl,yE,MS,yH,Ww,Ja,tG,s5⟩ nT
  obtain ⟨dd,MT,rfl⟩:=Bj hx
  have Jb:=List.mem_of_getElem? MT
  have hi:=List.getElem?_eq_some_iff.mp MT
  have Rn:(ds.drop i).map Rr.r=dd.r::(ds.drop (i+1)).map Rr.r:=by rw[List.drop_eq_getElem_cons hi.1,hi.2];rfl
  rw[Rn]at tG
  have ZH:=hi.1
  have sT:=ai.upd (o:=HO.tup [V.int i,V.ref dd.a]) nT
  refine ⟨T,_,rfl,aN.of ae,rfl,_,_,rfl,_,_,rfl,rfl,?_⟩
  have Cr:=yE.same sT
  have s6:=s5.trans sT
  have tM:=(MR dd Jb).ts (aC.of s6)
  generalize upd H5 T (HO.tup [V.int i,V.ref dd.a])=H6 at Cr s6 tM ⊢
  clear sT nT yE s5
  rcases tG with ⟨e,Ro,aX,tR⟩ | ⟨o7,Rp⟩
  ·rw[Ro]at tM
   refine ⟨_,rfl,_,rfl,_,rfl, .inl ⟨y,d,wl,ol,dd.a,Ws,Os,L,m,e,rfl,hy,hz,Cr,MS,yH,by omega,wG tM,aX,fun LY LZ HB ZI eW eO ZJ fB=>?_⟩⟩
   refine ⟨_,rfl,a_ rfl ?_⟩
   have Q8:L.length=(aq y).length:=yH.ln
   obtain ⟨Wx,KR⟩:=MS.step hy Q8 aX
   have ZK:=yH.step hy aX
   rw[<-eW, <-eO]at Wx
   rw[<-eW]at KR
   have hm9:aM m e<=m+2:=by cases e<;>exact Nat.le_of_ble_eq_true (by simp[aM])
   refine ⟨_,_,LY,LZ,dO (aq y) (lets (oW Ws)) L e,aM m e,rfl,ZI,Wx,by rw[KR];exact ZK,by omega,fun x hx=>?_,by rw[KR];exact tR,fun a u ea=>fB _ _ (s6 _ _ ea) fun z=>by rw[Ja a z]at ea;cases ea⟩
   rcases ZJ x hx with g | g
   ·exact ai.free s6 g
   ·exact Ja x g
  ·refine ⟨_,rfl,_,rfl,_,rfl, .inr ⟨y,d,wl,ol,dd.a,Ws,Os,L,m,dd.r,rfl,hy,hz,Cr,MS,yH,tM,o7,fun H' s'=>?_⟩⟩
   refine ⟨_,rfl,aT rfl ?_⟩
   subst hR
   exact ⟨_,rfl,by show 2<=sizeLine;decide,fun p np=>Rp p _ ae ((s6.trans s').trans (ai.upd np))⟩
 ·rintro σ H5 ⟨av,dv,Ws,Os,L,m,rfl,yE,MS,yH,Ww,Ja,tG,s5⟩
  rw[fT,List.drop_length]at tG
  have q:P0 (lets (oW Ws)) L:=tG
  subst hP
  rw[fT]at Ww
  refine ⟨_,rfl,y,d,wl,ol,Ws,Os,L,m,rfl,hy,hz,yE,MS,yH,by omega,fun lO os' H' g1 g2 s'=>?_⟩
  exact q lO os' H' g1 g2 (by rw[g2];exact yH) (s5.trans s')
theorem BZ:cD P w K mg base iK 1 f1 d1 ["yard"] (rV K):=by
 refine T.F1.fn.ok Bw (fun vs H Q E h=>xR h) (fun dS A outer s H vs Q E hr h=>?_)
 refine ⟨_,(ak (aQ (bB K rfl PySem.F.plainAttrs_str PySem.F.slot_str_join PySem.F.type_str_join (mf K rfl) (bR [] (by decide+kernel)) (aa (au (jX K rfl) rfl T.z_sorted boot_sorted (aa (bS ["letter"] [none] (uu (pv 0)) trivial (fun _ _ _ _=>(aD (i:=0) (by decide+kernel:List.Nodup (["letter"]:List Str)) rfl (Or.inl rfl))) (fun _ _ _ _=>(hZ (fW (gH K rfl PySem.F.plainAttrs_str PySem.F.slot_str_islower PySem.F.type_str_islower l_ (pv 0))))) (fun _ _ _ _=>(pv 0))) af)) af)))),?_⟩
 obtain ⟨l,rfl,hl,hz,q⟩:=h
 have hs:(1000:Nat)<sizeLine:=by decide
 refine ⟨rfl,_,rfl,l,rfl,?_⟩
 refine me (xs:=bO l) (fun i acc H'=>ai H H'/\acc=bO ((l.take i).filter cE)) (by rw[aU];omega) ⟨ai.refl H,rfl⟩ ?_ ?_
 ·rintro i x acc H1 Nx hi hx eZ ⟨s1,rfl⟩ nx
  obtain ⟨c,hc,rfl⟩:=dB hx
  have e:=k_ (p:=cE) hc
  refine ⟨trivial,?_⟩
  refine ⟨_,rfl,rfl,c,rfl,rfl,hl c (List.mem_of_getElem? hc),_,rfl,?_⟩
  refine eu (fun z=>?_) (fun z=>?_)
  ·rw[if_pos z]at e
   exact ⟨_,rfl,nx _ _ (by simpa using eZ) ⟨s1,by rw[e, <-j5]⟩⟩
  ·rw[if_neg z,List.append_nil]at e
   exact nx _ _ (Nat.le_succ_of_le eZ) ⟨s1,by rw[e]⟩
 ·rintro acc H1 D eZ ⟨s1,rfl⟩ hD
  rw[rS,gn]
  have YC:(l.filter cE).length<=l.length:=List.length_filter_le _ _
  refine ⟨D,(l.filter cE).map fun c=>[c],rfl,aJ.of ae,by rw[List.length_map];omega,fun p ls hp jx JH=>?_⟩
  obtain ⟨l',rfl,pl⟩:=vQ jx
  have jI:=pl.length_eq
  refine ⟨p,l'.map fun c=>[c],rfl,rfl,aJ.of ae,by rw[Dz];omega,?_⟩
  rw[wb]
  exact q l' _ pl (vR JH) ((s1.trans (ai.upd hD)).trans (ai.upd hp))
theorem vj:cD P w K mg base iK 1 f3 d3 ["orders","band","number"] (mZ K):=by
 refine T.F3.fn.ok jB (fun vs H Q E h=>sO h) (fun dS A outer s H vs Q E hr h=>?_)
 refine ⟨_,(ag (bH (PW.pt (jc (FU (xA (cH hr) (pv 1) (pv 0)) (by with_unfolding_all rfl)) (gW (cU (cY eM kQ ah (pv 2) (aE cB (au (ax K rfl) rfl T.z_len PySem.boot_len (aa (bW (cH hr) (pv 0) (pv 1) (fun _ _=>rfl)) af)) ah)))))) (ak (aQ dm)) aY)
   (ag (aB (i:=3) jB.nd rfl (Or.inl rfl) (bW (cH hr) (pv 0) (pv 1) (fun _ _=>rfl)))
   (ag (aB (i:=4) jB.nd rfl (Or.inl rfl) (az (aH K rfl) (pv 3) (pv 2) (fun _ _=>rfl)))
   (ag (fX (az (aH K rfl) (pv 3) (aE bz (pv 2) ah) (fun _ _=>rfl)) (gY (pv 3) (pv 2) set_list))
   (ag (fX (pv 4) (gY (pv 3) (aE bz (pv 2) ah) set_list))
   (ak (aQ dm))))))),?_⟩
 rcases h with h | h
 ·obtain ⟨d,bs,os,b,j,n,o,rfl,hO,nd,zg,hb,ho,hn,q⟩:=h
  have hs:(100000:Nat)<sizeLine:=by decide
  have dU:=List.mem_of_getElem? ho
  have lN:=hO.ok o dU
  have Rq:=lN.fw
  have G_:=c_ nd hb ho
  have dg:cj H d (V.str (S [b])) (some (.ref o.o)):=by rw[<-G_];exact cj.k (k:=kS [b]) hO.dk
  have h0:o.ps[n]? =some (o.ps[n]'(by omega)):=List.getElem?_eq_getElem _
  have h1:o.ps[n+1]? =some o.ps[n+1]:=List.getElem?_eq_getElem hn
  generalize hp0:(o.ps[n]'(by omega))=p0 at h0
  generalize gS:o.ps[n+1]=p1 at h1
  have g0:(de o.ps)[n]? =some (V.ref p0.t):=by unfold de;rw[List.getElem?_map,h0];rfl
  have g1:(de o.ps)[n+1]? =some (V.ref p1.t):=by unfold de;rw[List.getElem?_map,h1];rfl
  have ZL:swapAt n o.ps=(o.ps.set n p1).set (n+1) p0:=by unfold swapAt;rw[h0,h1]
  have en:(n:Int)+1=((n+1:Nat):Int):=by omega
  refine ⟨_,rfl,_,rfl,d,_,rfl,dg,_,rfl,a_ rfl ?_⟩
  refine ⟨_,rfl,_,_,rfl,rfl,_,rfl,aT (decide_eq_true (by omega)) ?_⟩
  refine ⟨_,rfl,_,rfl,d,_,rfl,dg,o.o,_,rfl, .inl (aJ.of lN.tp),_,_,rfl,rfl,_,_,rfl,rfl,_,rfl,a_ ?_ ?_⟩
  ·rw[bg,decide_eq_true (by omega)];rfl
  refine ⟨_,rfl,_,rfl,d,_,rfl,dg,?_⟩
  refine ⟨_,rfl,_,rfl,o.o,_,_,_,rfl,rfl,aJ.of lN.tp,aA g0,?_⟩
  refine ⟨_,rfl,_,rfl,_,_,rfl,rfl,o.o,_,_,_,rfl,rfl,aJ.of lN.tp,by rw[en];exact aA g1,?_⟩
  refine ⟨_,rfl,_,rfl,o.o,_,_,n,rfl,rfl,lN.tp,?_,?_⟩
  ·rw[bg];exact iP (by omega)
  rw[wj]
  refine ⟨_,rfl,_,rfl,_,rfl,_,_,rfl,rfl,o.o,_,_,n+1,rfl,rfl,ae,?_,?_⟩
  ·rw[en,bg,List.length_set];exact iP (by omega)
  rw[wj,vp, <-ZL]
  have Jz:=swap_perm n o.ps
  refine q _ (hO.mut ho (fun p hp=>lN.pr p (Jz.mem_iff.mp hp)) (by rw[Jz.length_eq];exact Rq)) fun a u ea z=>by rw[aj z];exact ea
 ·obtain ⟨d,bs,os,x,n,rfl,hO,nd,hx,q⟩:=h
  by_cases hb: ∃b∈bs,x=[b]
  ·obtain ⟨b,LW,rfl⟩:=hb
   obtain ⟨j,hj,Jc⟩:=List.mem_iff_getElem.mp LW
   have hb:bs[j]? =some b:=by rw[List.getElem?_eq_getElem hj,Jc]
   have qA:j<os.length:=by rw[hO.ln];exact hj
   have ho:os[j]? =some os[j]:=List.getElem?_eq_getElem qA
   generalize os[j]=o at ho
   have hn:=hx j b o rfl hb ho
   have lN:=hO.ok o (List.mem_of_getElem? ho)
   have dg:cj H d (V.str (S [b])) (some (.ref o.o)):=by rw[<-c_ nd hb ho];exact cj.k (k:=kS [b]) hO.dk
   refine ⟨_,rfl,_,rfl,d,_,rfl,dg,_,rfl,a_ rfl ?_⟩
   by_cases h0:0<=n
   ·refine ⟨_,rfl,_,_,rfl,rfl,_,rfl,aT (decide_eq_true h0) ?_⟩
    refine ⟨_,rfl,_,rfl,d,_,rfl,dg,o.o,_,rfl, .inl (aJ.of lN.tp),_,_,rfl,rfl,_,_,rfl,rfl,_,rfl,aT ?_ q⟩
    rw[bg,decide_eq_false (by omega)];rfl
   ·exact ⟨_,rfl,_,_,rfl,rfl,_,rfl,a_ (decide_eq_false h0) ⟨_,rfl,aT rfl q⟩⟩
  ·have dg:cj H d (V.str (S x)) none:=by
    have e:cf (cW bs os) (kS x)=none:=mY fun b LW z=>hb ⟨b,LW,z⟩
    rw[<-e];exact cj.k (k:=kS x) hO.dk
   exact ⟨_,rfl,_,rfl,d,_,rfl,dg,_,rfl,aT rfl q⟩
theorem lz:cD P w K mg base iK 1 f0 d0 ["letter"] (kZ K):=by
 refine T.F0.fn.ok tq (fun vs H Q E h=>qg h) (fun dS A outer s H vs Q E hr h=>?_)
 refine ⟨_,(ag (bH (fW (gH K rfl PySem.F.plainAttrs_str PySem.F.slot_str_islower PySem.F.type_str_islower l_ (pv 0))) (ak (aQ (gH K rfl PySem.F.plainAttrs_str PySem.F.slot_str_upper PySem.F.type_str_upper zN (pv 0)))) aY)
   (ak (aQ (gH K rfl PySem.F.plainAttrs_str PySem.F.slot_str_lower PySem.F.type_str_lower jS (pv 0))))),?_⟩
 obtain ⟨c,rfl,hc,q⟩:=h
 refine ⟨_,rfl,rfl,c,rfl,rfl,hc,_,rfl,eu (fun e=>?_) (fun e=>?_)⟩
 ·refine ⟨_,rfl,rfl,c,rfl,rfl,hc,?_⟩
  have z:bL c=PyProof.Rows.up1 c:=if_pos e
  rw[<-z]
  exact q
 ·refine ⟨_,rfl,rfl,c,rfl,rfl,hc,?_⟩
  have z:bL c=PyProof.Rows.lo1 c:=if_neg e
  rw[<-z]
  exact q
theorem iH:cD P w K mg base iK 1 f2 d2 ["orders","cord","places"] (lg K):=by
 refine T.F2.fn.ok fU (fun vs H Q E h=>ql h) (fun dS A outer s H vs Q E hr h=>?_)
 refine ⟨_,(ak (cn PassesOwn.never rfl (eP K rfl (bb (uH rfl) rfl T.z_list boot_list (aa (pv 0) af))) (aD (i:=3) fU.nd rfl (Or.inl rfl)) (ag (aB (i:=4) fU.nd rfl (Or.inl rfl) (bt af))
   (ag (cn PassesOwn.never rfl (eP K rfl (bW (cH hr) (pv 0) (pv 3) (fun _ _=>rfl))) (aD (i:=5) fU.nd rfl (Or.inl rfl)) (ak (bH (aS GF (az (aF K rfl) (pv 5) ah (fun _ _=>rfl)) (pv 1) (bq _)) (ak (bE (bB K rfl PySem.F.plainAttrs_list PySem.F.slot_list_append PySem.F.type_list_append dn (pv 4) (aa (pv 5) af)))) (ak (bH (aS CA (az (aH K rfl) (pv 2) (az (aF K rfl) (pv 5) ah (fun _ _=>rfl)) (fun _ _=>rfl)) kh (bq _)) (ak (bE (bB K rfl PySem.F.plainAttrs_list PySem.F.slot_list_append PySem.F.type_list_append dn (pv 4) (aa (bA (aa (pv 1) (aa (az (aH K rfl) (pv 2) (az (aF K rfl) (pv 5) ah (fun _ _=>rfl)) (fun _ _=>rfl)) af))) af)))) aY)))))
   (ak (jZ (cH hr) (pv 0) (pv 3) (pv 4) rfl)))))),?_⟩
 obtain ⟨d,c,pp,bs,os,xs,f,rfl,hO,nd,zg,hc,OP,hx,hf,q⟩:=h
 have hs:(100000:Nat)<sizeLine:=by decide
 have Rt:=hO.ln
 refine ⟨_,rfl,d,_,rfl,hO.dk,by rw[mF Rt];omega,fun lp nl=>?_⟩
 rw[oR Rt]
 have sL:=ai.upd (o:=HO.lst (bO bs)) nl
 have Ru:upd H lp (HO.lst (bO bs)) lp=some (HO.lst (bO bs)):=ae
 have zu:=hO.same sL
 have Ei:=sL _ _ OP
 have Rv:lp≠d:=Ne.symm (ao hO.dk nl)
 generalize upd H lp (HO.lst (bO bs))=H1 at sL Ru zu Ei ⊢
 have Rw:pp≠d:=fun z=>by rw[z,zu.dk]at Ei;cases Ei
 refine ⟨lp,rfl,⟨_,aJ.of Ru⟩,?_⟩
 refine jK (K:=K) (a:=lp) (xs:=bO bs) (fun i σ H'=> ∃(bv kv sv:Option V) (cur:List Od),σ=[some (.ref d),some (.int c),some (.ref pp),bv,kv,sv]/\cur.length=os.length/\bP H' d bs cur/\cur.drop i=os.drop i/\(cur.take i).map bw=(os.take i).map (fun o=>bZ c f (bw o))/\(∀o∈cur.take i,H1 o.o=none)/\aI d H1 H')
  ⟨none,none,none,os,rfl,rfl,zu,rfl,rfl,by simp,aI.refl _ _⟩ (fun i σ H' _ ⟨_,_,_,_,_,_,_,_,_,_,s⟩=>aJ.of (s _ _ Ru Rv)) ?_ ?_
 ·rintro i x σ H2 KS ⟨bv,kv,sv,cur,rfl,yF,Jd,JU,EO,lE,s2⟩
  obtain ⟨b,hb,rfl⟩:=dB KS
  have hi:i<bs.length:=(List.getElem?_eq_some_iff.mp hb).1
  have Wy:i<cur.length:=by omega
  have vf:i<os.length:=by omega
  have Je:cur[i]? =some os[i]:=by
   have e:=congrArg (fun l=>l[0]?) JU
   simp only[List.getElem?_drop,Nat.add_zero]at e
   rw[e,List.getElem?_eq_getElem vf]
  have dU:os[i]∈os:=List.getElem_mem vf
  have Jf:os[i]∈cur:=List.mem_of_getElem? Je
  generalize pB:os[i]=o at Je dU Jf
  have lN:=Jd.ok o Jf
  have v7:=Jd.ne Jf
  have MU:=s2 _ _ Ei Rw
  refine ⟨by show 0<=sizeLine;decide,fun p5 n5=>?_⟩
  have s5:=ai.upd (o:=HO.lst []) n5
  have h5:upd H2 p5 (HO.lst []) p5=some (HO.lst []):=ae
  have ni:=Jd.same s5
  have Ej:=lN.same s5
  have MV:=s5 _ _ MU
  have ZM:o.o≠p5:=ao lN.tp n5
  have ZN:pp≠p5:=ao MU n5
  generalize upd H2 p5 (HO.lst [])=H5 at s5 h5 ni Ej MV ⊢
  refine ⟨_,rfl,_,rfl,d, .ref o.o,rfl,by rw[<-c_ nd hb Je];exact cj.k (k:=kS [b]) ni.dk,o.o,rfl,⟨_,aJ.of Ej.tp⟩,?_⟩
  refine jK (K:=K) (a:=o.o) (xs:=de o.ps) (fun j σ H'=> ∃(sv:Option V) (us:List Pr),σ=[some (.ref d),some (.int c),some (.ref pp),some (.str (S [b])),some (.ref p5),sv]/\H' p5=some (.lst (de us))/\(∀u∈us,f_ H' u)/\us.map Pr.pair=bZ c f ((o.ps.take j).map Pr.pair)/\us.length<=j/\aI p5 H5 H')
   ⟨sv,[],rfl,h5,by simp,rfl,Nat.zero_le _,aI.refl _ _⟩ (fun j σ H' _ ⟨_,_,_,_,_,_,_,s⟩=>aJ.of (s _ _ Ej.tp ZM)) ?_ ?_
  ·rintro j x σ H6 BD ⟨sv,us,rfl,tR,MW,JV,Wz,s6⟩
   obtain ⟨p,Rx,rfl⟩:=AM BD
   have jx:=List.mem_of_getElem? Rx
   have hj:j<o.ps.length:=(List.getElem?_eq_some_iff.mp Rx).1
   have Rq:=lN.fw
   have Ek:=Ej.pr p jx
   have Ry:p.t≠p5:=fun z=>by have:=Ek.tp;rw[z,h5]at this;cases this
   have OY:=s6 _ _ Ek.tp Ry
   have es:bZ c f ((o.ps.take (j+1)).map Pr.pair)=bZ c f ((o.ps.take j).map Pr.pair)++(dZ c f p.pair).toList:=by
    rw[<-take_snoc Rx,List.map_append]
    exact xV _ _ _ _
   have tU: ∀{y:List V},aC H6 (upd H6 p5 (.lst y)):=fun {y}=>aC.ja tR
   have sU: ∀{y:List V},aI p5 H5 (upd H6 p5 (.lst y)):=fun {y} a u ea z=>by rw[aj z];exact s6 a u ea z
   refine ⟨_,rfl,p.t,_,0,_,rfl,rfl,aN.of OY,rfl,_,rfl,_,_,rfl,rfl,_,rfl,eu (fun z=>?_) (fun z=>?_)⟩
   ·have z': ¬p.c=c:=fun e=>by
     have z2:(!decide ((p.c:Int)=(c:Int)))=true:=z
     rw[decide_eq_true (by omega)]at z2;cases z2
    have er:dZ c f p.pair=some p.pair:=if_neg z'
    refine ⟨_,rfl, .inl ⟨rfl,_,aJ.of tR⟩,_,rfl,p5,_,_,rfl,rfl,tR,by rw[bg];omega,?_⟩
    refine ⟨_,us++[p],rfl,by rw[ae,ir],fun u hu=>?_,by rw[List.map_append,JV,es,er];rfl,by rw[List.length_append,List.length_singleton];omega,sU⟩
    rcases List.mem_append.mp hu with g | g
    ·exact (MW u g).ts tU
    ·rw[List.mem_singleton.mp g];exact (⟨OY,Ek.cz,Ek.iz⟩:f_ H6 p).ts tU
   ·have z':p.c=c:=by
     have z2: ¬(!decide ((p.c:Int)=(c:Int)))=true:=z
     by_cases e:p.c=c
     ·exact e
     ·rw[decide_eq_false (by omega)]at z2;exact absurd rfl z2
    have Rz:=hx o dU p jx z'
    have MX:=s6 _ _ MV ZN
    have er:dZ c f p.pair=(f p.i).map fun j=>(c,j):=if_pos z'
    refine ⟨_,rfl,_,rfl,p.t,_,1,_,rfl,rfl,aN.of OY,rfl,pp,_,_,_,rfl,rfl,aJ.of MX,aA Rz,rfl,_,rfl,?_⟩
    cases OZ:f p.i with
    | none=>
     refine a_ (by rfl) ?_
     refine ⟨_,us,rfl,tR,MW,by rw[es,er,OZ,JV];simp,by omega,s6⟩
    | some k=>
     rw[OZ]at Rz
     have hk:=hf o dU p jx z' k OZ
     refine aT (by rfl) ?_
     refine ⟨_,rfl, .inl ⟨rfl,_,aJ.of tR⟩,_,rfl,_,rfl,_,rfl,p.t,_,1,_,rfl,rfl,aN.of OY,rfl,pp,_,_,_,rfl,rfl,aJ.of MX,aA Rz,by show 2<=sizeLine;decide,fun t nt=>?_⟩
     have st:=ai.upd (o:=HO.tup [V.int c,V.int (k:Nat)]) nt
     have zp:=st _ _ tR
     refine ⟨p5,_,_,rfl,rfl,zp,by rw[bg];omega,?_⟩
     have WA:=aC.ja (o:=HO.lst (de us++[V.ref t])) zp
     refine ⟨_,us++[⟨t,c,k⟩],rfl,by rw[ae];exact congrArg (fun x=>some (HO.lst x)) (ir us ⟨t,c,k⟩),fun u hu=>?_,by rw[List.map_append,JV,es,er,OZ];rfl,by rw[List.length_append,List.length_singleton];omega,fun a u ea z=>by rw[aj z];exact st _ _ (s6 a u ea z)⟩
     rcases List.mem_append.mp hu with g | g
     ·exact (MW u g).ts ((aC.of st).trans WA)
     ·rw[List.mem_singleton.mp g];exact ⟨WA _ _ ae,hc,hk⟩
  ·rintro σ H6 ⟨sv,us,rfl,tR,MW,JV,Wz,s6⟩
   rw[bg,List.take_length]at JV
   rw[bg]at Wz
   have Rq:=lN.fw
   have BQ:p5≠d:=Ne.symm (ao Jd.dk n5)
   have ZO:aC H5 H6:=fun a ys e=>s6 a _ e fun z=>by rw[z,h5]at e;cases e
   have gR: ∀o'∈cur,o'.o≠p5:=fun o' gf=>ao (Jd.ok o' gf).tp n5
   have wM:bP H6 d bs cur:=⟨s6 _ _ ni.dk (Ne.symm BQ),ni.ln,ni.nd,fun o' gf=>(ni.ok o' gf).LQ s6 (gR o' gf) ZO⟩
   have new:=wM.put nd hb (o':=⟨p5,us⟩) ⟨tR,MW,by show us.length<=200;omega⟩ BQ gR
   refine ⟨_,rfl,_,rfl,_,rfl,d,_,rfl,mn.k (k:=kS [b]) wM.dk (by rw[mF wM.ln];omega),?_⟩
   have Iw:os[i]? =some o:=by rw[List.getElem?_eq_getElem vf,pB]
   refine ⟨_,_,_,cur.set i ⟨p5,us⟩,rfl,by rw[List.length_set];exact yF,new,?_,?_,fun o' gf=>?_,fun a u ea z=>?_⟩
   ·rw[set_drop]
    have:=congrArg (List.drop 1) JU
    rw[List.drop_drop,List.drop_drop]at this
    exact this
   ·rw[rZ _ _ _ Wy,List.map_append,EO, <-take_snoc Iw,List.map_append]
    show _++[us.map Pr.pair]=_++[bZ c f (bw o)]
    rw[JV]
    rfl
   ·rw[rZ _ _ _ Wy]at gf
    rcases List.mem_append.mp gf with g | g
    ·exact lE o' g
    ·rw[List.mem_singleton.mp g];exact s2.none n5 BQ
   ·rw[aj z]
    have ez:=s2 a u ea z
    exact s6 _ _ (s5 _ _ ez) (ao ez n5)
 ·rintro σ H2 ⟨bv,kv,sv,cur,rfl,yF,Jd,JU,EO,lE,s2⟩
  rw[aU, <-Rt]at EO lE
  rw[<-yF,List.take_length]at lE
  rw[List.take_length, <-yF,List.take_length]at EO
  exact q cur H2 Jd EO (fun o ho=>ai.free sL (lE o ho)) (fun a u ea z=>s2 a u (sL a u ea) z)
theorem yI:cD P w K mg base iK 2 f4 d4 ["words","orders","cord","place"] (o9 K):=by
 have jD:=lz (P:=P) (w:=w) (base:=base) T
 have fM:=iH (P:=P) (w:=w) (base:=base) T
 refine T.F4.fn.ok pk (fun vs H Q E h=>u6 h) (fun dS A outer s H vs Q E hr h=>?_)
 refine ⟨_,(ag (aB (i:=4) pk.nd rfl (Or.inl rfl) (az (aH K rfl) (pv 0) (pv 2) (fun _ _=>rfl)))
   (ag (bH (PW.pt (jc (cU (cY eM kQ ah (pv 3) (aE cB (au bJ rfl T.z_len PySem.boot_len (aa (pv 4) af)) ah))) (gW (aS uw (az nA (pv 4) (aE bz (pv 3) ah) (fun _ _=>rfl)) (ay jD (hr.mono (by decide)) rfl T.F0.mg T.F0.fn.kp T.F0.bd .nil aR (aa (az nA (pv 4) (pv 3) (fun _ _=>rfl)) af)) (bq _))))) (ak (aQ dm)) aY)
   (ag (fX (aE gG (eN xp (pv 4) fO (fP (pv 3))) (eN xp (pv 4) (fP (aE bz (pv 3) ah)) fO)) (gY (pv 0) (pv 2) set_list))
   (ag (bE (ay fM (hr.mono (by decide)) rfl T.F2.mg T.F2.fn.kp T.F2.bd .nil aR (aa (pv 1) (aa (pv 2) (aa (aE hU (aE hU (iq rfl rfl T.z_list rfl T.z_range (aa (pv 3) af)) (bt (aa kh (aa kh af)))) (kY rfl rfl T.z_list rfl T.z_range (aa (pv 3) (aa (aE cB (au bJ rfl T.z_len PySem.boot_len (aa (pv 4) af)) ah) af)))) af)))))
   (ak (aQ dm)))))),?_⟩
 rcases h with h | h
 ·obtain ⟨d,wl,bs,os,ws,c,k,w,x,rfl,hH,hw,OW,HS,q⟩:=h
  have hs:(100000:Nat)<sizeLine:=by decide
  have El:(bX ws)[c]? =some (.str (S w)):=by unfold bX;rw[List.getElem?_map,hw];rfl
  obtain ⟨JW,vd⟩:=hH.wo w (List.mem_of_getElem? hw)
  have i5:c<ws.length:=(List.getElem?_eq_some_iff.mp hw).1
  have O0:=hH.wz
  have JO:k+1<w.length:=(List.getElem?_eq_some_iff.mp HS).1
  have wx:=JW x (List.mem_of_getElem? OW)
  have ek:(k:Int)+1=((k+1:Nat):Int):=by omega
  have WB:(k:Int)+2=((k+2:Nat):Int):=by omega
  refine ⟨_,rfl,_,rfl,wl,_,_,_,rfl,rfl,aJ.of hH.wd,aA El,?_⟩
  refine ⟨_,rfl,_,_,rfl,rfl,_,rfl,aT (decide_eq_true (by omega)) ⟨_,rfl,w,rfl,by omega,_,_,rfl,rfl,_,_,rfl,rfl,_,rfl,a_ (by rw[decide_eq_true (by omega)];rfl) ?_⟩⟩
  refine ⟨_,rfl,_,rfl,_,_,rfl,rfl,w,_,bL x,rfl,rfl,by omega,by rw[ek];exact aA HS,?_⟩
  refine ⟨_,rfl,_,rfl,w,_,x,rfl,rfl,by omega,aA OW,x,rfl,wx.lt,_,_,rfl,rfl,_,rfl,a_ (by rw[decide_eq_true rfl];rfl) ?_⟩
  refine ⟨_,rfl,_,rfl,_,rfl,w,rfl,by omega,?_⟩
  refine ⟨_,rfl,_,rfl,_,_,rfl,rfl,_,rfl,w,rfl,by omega,_,_,rfl,rfl,by rw[WB,oV,gp];simp;omega,_,rfl,_,rfl,wl,_,_,c,rfl,rfl,hH.wd,by rw[bh];exact iP i5,?_⟩
  rw[WB,oV,gp,qo]
  have zu:bP (upd H wl (.lst (bX (ws.set c (w.take k++w.drop (k+2)))))) d bs os:=hH.od.HN hH.ne hH.wd
  have fin: ∀H3,ai (upd H wl (.lst (bX (ws.set c (w.take k++w.drop (k+2)))))) H3->_:=fun H3 s3=>sg hH q s3
  generalize upd H wl (.lst (bX (ws.set c (w.take k++w.drop (k+2)))))=H1 at zu fin ⊢
  refine ⟨_,rfl,_,rfl,_,rfl,_,rfl,by omega,by omega,fun p1 n1=>?_⟩
  have s1:=ai.upd (o:=HO.lst ((List.range ((k:Int)).toNat).map fun (j:Nat)=>V.int (0+(j:Int)))) n1
  have h1:upd H1 p1 (HO.lst ((List.range ((k:Int)).toNat).map fun (j:Nat)=>V.int (0+(j:Int)))) p1=_:=ae
  generalize upd H1 p1 (HO.lst ((List.range ((k:Int)).toNat).map fun (j:Nat)=>V.int (0+(j:Int))))=H2 at s1 h1 ⊢
  refine ⟨by show 2<=sizeLine;decide,fun p2 n2=>?_⟩
  have s2:=ai.upd (o:=HO.lst [V.bY,V.bY]) n2
  refine ⟨p1,p2,_,_,rfl,rfl,s2 _ _ h1,ae,by simp;omega,fun p3 n3=>?_⟩
  have s3:=ai.upd (o:=HO.lst (((List.range ((k:Int)).toNat).map fun (j:Nat)=>V.int (0+(j:Int)))++[V.bY,V.bY])) n3
  have wN:=(s1.trans s2).trans s3
  have h3:upd (upd H2 p2 (HO.lst [V.bY,V.bY])) p3 (HO.lst (((List.range ((k:Int)).toNat).map fun (j:Nat)=>V.int (0+(j:Int)))++[V.bY,V.bY])) p3=_:=ae
  generalize upd (upd H2 p2 (HO.lst [V.bY,V.bY])) p3 (HO.lst (((List.range ((k:Int)).toNat).map fun (j:Nat)=>V.int (0+(j:Int)))++[V.bY,V.bY]))=H3 at wN h3 ⊢
  refine ⟨_,rfl,_,rfl,w,rfl,by omega,_,_,rfl,rfl,_,_,rfl,by omega,by omega,fun p4 n4=>?_⟩
  have s4:=ai.upd (o:=HO.lst ((List.range ((w.length:Int) - 2 - (k:Int)).toNat).map fun (j:Nat)=>V.int ((k:Int)+(j:Int)))) n4
  refine ⟨p3,p4,_,_,rfl,rfl,s4 _ _ h3,ae,by simp;omega,fun p5 n5=>?_⟩
  have s5:=ai.upd (o:=HO.lst (((List.range ((k:Int)).toNat).map fun (j:Nat)=>V.int (0+(j:Int)))++[V.bY,V.bY]++(List.range ((w.length:Int) - 2 - (k:Int)).toNat).map fun (j:Nat)=>V.int ((k:Int)+(j:Int)))) n5
  have Cf:=(wN.trans s4).trans s5
  refine ⟨d,c,p5,bs,os,_,outF k,rfl,zu.same Cf,hH.nd,hH.bl,by omega,ae,hH.pl hw fun i hi=>HP JO hi,hH.pb hw fun i j hi e=>?_,fin _ Cf⟩
  unfold outF at e
  split at e
  ·cases e;omega
  ·split at e
   ·cases e
   ·cases e;omega
 ·obtain ⟨d,wl,bs,os,ws,c,k,w,rfl,hH,hw,hk,q⟩:=h
  have hs:(100000:Nat)<sizeLine:=by decide
  have El:(bX ws)[c]? =some (.str (S w)):=by unfold bX;rw[List.getElem?_map,hw];rfl
  obtain ⟨JW,vd⟩:=hH.wo w (List.mem_of_getElem? hw)
  refine ⟨_,rfl,_,rfl,wl,_,_,_,rfl,rfl,aJ.of hH.wd,aA El,?_⟩
  by_cases h0:0<=k
  ·by_cases h1:k<(w.length:Int) - 1
   ·obtain ⟨j,rfl⟩: ∃j:Nat,k=(j:Int):=⟨k.toNat,by omega⟩
    have ek:(j:Int)+1=((j+1:Nat):Int):=by omega
    have g0:w[j]? =some (w[j]'(by omega)):=List.getElem?_eq_getElem _
    have g1:w[j+1]? =some (w[j+1]'(by omega)):=List.getElem?_eq_getElem _
    have gR:=hk j _ rfl g0
    generalize w[j]'(by omega)=x at g0 gR
    generalize w[j+1]'(by omega)=x2 at g1
    rw[g1]at gR
    have wx:=JW x (List.mem_of_getElem? g0)
    refine ⟨_,rfl,_,_,rfl,rfl,_,rfl,aT (decide_eq_true (by omega)) ⟨_,rfl,w,rfl,by omega,_,_,rfl,rfl,_,_,rfl,rfl,_,rfl,a_ (by rw[decide_eq_true (by omega)];rfl) ?_⟩⟩
    refine ⟨_,rfl,_,rfl,_,_,rfl,rfl,w,_,x2,rfl,rfl,by omega,by rw[ek];exact aA g1,?_⟩
    have hd: ¬([x2]=[bL x]):=fun z=>gR (by rw[(List.cons.inj z).1])
    exact ⟨_,rfl,_,rfl,w,_,x,rfl,rfl,by omega,aA g0,x,rfl,wx.lt,_,_,rfl,rfl,_,rfl,aT (by rw[decide_eq_false hd];rfl) q⟩
   ·exact ⟨_,rfl,_,_,rfl,rfl,_,rfl,aT (decide_eq_true h0) ⟨_,rfl,w,rfl,by omega,_,_,rfl,rfl,_,_,rfl,rfl,_,rfl,aT (by rw[decide_eq_false h1];rfl) q⟩⟩
  ·exact ⟨_,rfl,_,_,rfl,rfl,_,rfl,a_ (decide_eq_false h0) ⟨_,rfl,aT rfl q⟩⟩
theorem vk:cD P w K mg base iK 2 f6 d6 ["words","orders","cord"] (mH K):=by
 have fM:=iH (P:=P) (w:=w) (base:=base) T
 refine T.F6.fn.ok m7 (fun vs H Q E h=>r_ h) (fun dS A outer s H vs Q E hr h=>?_)
 refine ⟨_,(ag (aB (i:=3) m7.nd rfl (Or.inl rfl) (az (aH K rfl) (pv 0) (pv 2) (fun _ _=>rfl)))
   (ag (fX (aE gG (eN xp (pv 3) (fP ah) fO) (eN xp (pv 3) fO (fP ah))) (gY (pv 0) (pv 2) set_list))
   (ag (bE (ay fM (hr.mono (by decide)) rfl T.F2.mg T.F2.fn.kp T.F2.bd .nil aR (aa (pv 1) (aa (pv 2) (aa (aE hU (bt (aa (aE cB (au bJ rfl T.z_len PySem.boot_len (aa (pv 3) af)) ah) af)) (iq rfl rfl T.z_list rfl T.z_range (aa (aE cB (au bJ rfl T.z_len PySem.boot_len (aa (pv 3) af)) ah) af))) af)))))
   (ak (aQ dm))))),?_⟩
 obtain ⟨d,wl,bs,os,ws,c,w,rfl,hH,hw,q⟩:=h
 have hs:(100000:Nat)<sizeLine:=by decide
 have El:(bX ws)[c]? =some (.str (S w)):=by unfold bX;rw[List.getElem?_map,hw];rfl
 refine ⟨_,rfl,_,rfl,wl,_,_,_,rfl,rfl,aJ.of hH.wd,aA El,?_⟩
 obtain ⟨JW,vd⟩:=hH.wo w (List.mem_of_getElem? hw)
 have i5:c<ws.length:=(List.getElem?_eq_some_iff.mp hw).1
 have O0:=hH.wz
 refine ⟨_,rfl,_,rfl,w,rfl,by omega,_,rfl,_,rfl,w,rfl,by omega,_,_,rfl,rfl,by rw[wm,sf];simp;omega,_,rfl,_,rfl,wl,_,_,c,rfl,rfl,hH.wd,by rw[bh];exact iP i5,?_⟩
 rw[wm,sf,qo]
 have zu:bP (upd H wl (.lst (bX (ws.set c (w.drop 1++w.take 1))))) d bs os:=hH.od.HN hH.ne hH.wd
 have fin: ∀H3,ai (upd H wl (.lst (bX (ws.set c (w.drop 1++w.take 1))))) H3->_:=fun H3 s3=>sg hH q s3
 generalize upd H wl (.lst (bX (ws.set c (w.drop 1++w.take 1))))=H1 at zu fin ⊢
 refine ⟨_,rfl,_,rfl,_,rfl,w,rfl,by omega,_,_,rfl,rfl,by show 1<=sizeLine;decide,fun p1 n1=>?_⟩
 have s1:=ai.upd (o:=HO.lst [V.int ((w.length:Int) - 1)]) n1
 have h1:upd H1 p1 (HO.lst [V.int ((w.length:Int) - 1)]) p1=some (HO.lst [V.int ((w.length:Int) - 1)]):=ae
 generalize upd H1 p1 (HO.lst [V.int ((w.length:Int) - 1)])=H2 at s1 h1 ⊢
 refine ⟨_,rfl,w,rfl,by omega,_,_,rfl,rfl,_,rfl,by omega,by omega,fun p2 n2=>?_⟩
 have s2:=ai.upd (o:=HO.lst ((List.range ((w.length:Int) - 1).toNat).map fun (k:Nat)=>V.int (0+(k:Int)))) n2
 refine ⟨p1,p2,_,_,rfl,rfl,s2 _ _ h1,ae,by simp;omega,fun p3 n3=>?_⟩
 have s3:=ai.upd (o:=HO.lst ([V.int ((w.length:Int) - 1)]++(List.range ((w.length:Int) - 1).toNat).map fun (k:Nat)=>V.int (0+(k:Int)))) n3
 have wN:=(s1.trans s2).trans s3
 refine ⟨d,c,p3,bs,os,_,eY w.length,rfl,zu.same wN,hH.nd,hH.bl,by omega,ae,hH.pl hw fun i hi=>DB hi,hH.pb hw fun i j hi e=>?_,fin _ wN⟩
 unfold eY at e
 split at e<;>(cases e;omega)
theorem B0:cD P w K mg base iK 2 f5 d5 ["words","orders","cord","place","letter","number"] (sQ K):=by
 have jD:=lz (P:=P) (w:=w) (base:=base) T
 have fM:=iH (P:=P) (w:=w) (base:=base) T
 refine T.F5.fn.ok m5 (fun vs H Q E h=>yh h) (fun dS A outer s H vs Q E hr h=>?_)
 refine ⟨_,(ag (aB (i:=6) m5.nd rfl (Or.inl rfl) (az (aH K rfl) (pv 0) (pv 2) (fun _ _=>rfl)))
   (ag (aB (i:=7) m5.nd rfl (Or.inl rfl) (bW (cH hr) (pv 1) (gH K rfl PySem.F.plainAttrs_str PySem.F.slot_str_lower PySem.F.type_str_lower jS (pv 4)) (fun _ _=>rfl)))
   (ag (bH (PW.pt (jc (cU (cY eM eM ah (pv 3) (au bJ rfl T.z_len PySem.boot_len (aa (pv 6) af)))) (gW (cU (cY eM eM ah (pv 5) (au (ax K rfl) rfl T.z_len PySem.boot_len (aa (pv 7) af))))))) (ak (aQ dm)) aY)
   (ag (fX (aE gG (aE gG (aE gG (eN xp (pv 6) fO (fP (pv 3))) (pv 4)) (ay jD (hr.mono (by decide)) rfl T.F0.mg T.F0.fn.kp T.F0.bd .nil aR (aa (pv 4) af))) (eN xp (pv 6) (fP (pv 3)) fO)) (gY (pv 0) (pv 2) set_list))
   (ag (bE (ay fM (hr.mono (by decide)) rfl T.F2.mg T.F2.fn.kp T.F2.bd .nil aR (aa (pv 1) (aa (pv 2) (aa (aE hU (iq rfl rfl T.z_list rfl T.z_range (aa (pv 3) af)) (kY rfl rfl T.z_list rfl T.z_range (aa (aE bz (pv 3) ah) (aa (aE bz (au bJ rfl T.z_len PySem.boot_len (aa (pv 6) af)) ah) af)))) af)))))
   (ag (bE (bB K rfl PySem.F.plainAttrs_list PySem.F.slot_list_insert PySem.F.type_list_insert fj (bW (cH hr) (pv 1) (gH K rfl PySem.F.plainAttrs_str PySem.F.slot_str_lower PySem.F.type_str_lower jS (pv 4)) (fun _ _=>rfl)) (aa (pv 5) (aa (bA (aa (pv 2) (aa (aE bz (pv 3) ah) af))) af))))
   (ag (bE (bB K rfl PySem.F.plainAttrs_list PySem.F.slot_list_insert PySem.F.type_list_insert fj (bW (cH hr) (pv 1) (gH K rfl PySem.F.plainAttrs_str PySem.F.slot_str_lower PySem.F.type_str_lower jS (pv 4)) (fun _ _=>rfl)) (aa (pv 5) (aa (bA (aa (pv 2) (aa (pv 3) af))) af))))
   (ak (aQ dm))))))))),?_⟩
 rcases h with h | h
 ·obtain ⟨d,wl,bs,os,ws,c,k,n,j,w,x,o,rfl,hH,hw,hk,hx,hb,ho,hn,ng,q⟩:=h
  have hs:(100000:Nat)<sizeLine:=by decide
  have El:(bX ws)[c]? =some (.str (S w)):=by unfold bX;rw[List.getElem?_map,hw];rfl
  obtain ⟨JW,vd⟩:=hH.wo w (List.mem_of_getElem? hw)
  have i5:c<ws.length:=(List.getElem?_eq_some_iff.mp hw).1
  have O0:=hH.wz
  have lN:=hH.od.ok o (List.mem_of_getElem? ho)
  have dg:cj H d (V.str (S [PyProof.Rows.lo1 x])) (some (.ref o.o)):=by rw[<-c_ hH.nd hb ho];exact cj.k (k:=kS [PyProof.Rows.lo1 x]) hH.od.dk
  refine ⟨_,rfl,_,rfl,wl,_,_,_,rfl,rfl,aJ.of hH.wd,aA El,?_⟩
  refine ⟨_,rfl,_,rfl,rfl,?_⟩
  refine ⟨x,rfl,rfl,hx.lt,d,_,rfl,dg,?_⟩
  refine ⟨_,rfl,_,_,rfl,rfl,_,rfl,aT (decide_eq_true (by omega)) ⟨_,rfl,w,rfl,by omega,_,_,rfl,rfl,_,rfl,a_ (by rw[decide_eq_true (by omega)];rfl) ?_⟩⟩
  refine ⟨_,rfl,_,_,rfl,rfl,_,rfl,aT (decide_eq_true (by omega)) ⟨_,rfl,o.o,_,rfl, .inl (aJ.of lN.tp),_,_,rfl,rfl,_,rfl,a_ (by rw[bg,decide_eq_true (by omega)];rfl) ?_⟩⟩
  refine ⟨_,rfl,_,rfl,_,rfl,w,rfl,by omega,_,rfl,_,[x],rfl,rfl,by rw[oV];simp;omega,?_⟩
  refine ⟨_,rfl,x,rfl,hx.lt,_,[bL x],rfl,rfl,by rw[oV];simp;omega,?_⟩
  refine ⟨_,rfl,_,rfl,_,rfl,w,rfl,by omega,_,_,rfl,rfl,by rw[oV,gp];simp;omega,_,rfl,_,rfl,wl,_,_,c,rfl,rfl,hH.wd,by rw[bh];exact iP i5,?_⟩
  rw[oV,gp,qo]
  have zu:bP (upd H wl (.lst (bX (ws.set c (w.take k++[x]++[bL x]++w.drop k))))) d bs os:=hH.od.HN hH.ne hH.wd
  have WC: ∀H3,ai (upd H wl (.lst (bX (ws.set c (w.take k++[x]++[bL x]++w.drop k))))) H3-> ∀(os':List Od) (H':Hp),_->_->_:=fun H3 s3 os' H'=>uS (os':=os') (H':=H') hH s3
  generalize upd H wl (.lst (bX (ws.set c (w.take k++[x]++[bL x]++w.drop k))))=H1 at zu WC ⊢
  refine ⟨_,rfl,_,rfl,_,rfl,_,rfl,by omega,by omega,fun p1 n1=>?_⟩
  have s1:=ai.upd (o:=HO.lst ((List.range ((k:Int)).toNat).map fun (j:Nat)=>V.int (0+(j:Int)))) n1
  have h1:upd H1 p1 (HO.lst ((List.range ((k:Int)).toNat).map fun (j:Nat)=>V.int (0+(j:Int)))) p1=_:=ae
  generalize upd H1 p1 (HO.lst ((List.range ((k:Int)).toNat).map fun (j:Nat)=>V.int (0+(j:Int))))=H2 at s1 h1 ⊢
  refine ⟨_,rfl,_,_,rfl,rfl,_,rfl,w,rfl,by omega,_,_,rfl,rfl,_,_,rfl,by omega,by omega,fun p4 n4=>?_⟩
  have s4:=ai.upd (o:=HO.lst ((List.range ((w.length:Int)+2 - ((k:Int)+2)).toNat).map fun (j:Nat)=>V.int ((k:Int)+2+(j:Int)))) n4
  refine ⟨p1,p4,_,_,rfl,rfl,s4 _ _ h1,ae,by simp;omega,fun p5 n5=>?_⟩
  have s5:=ai.upd (o:=HO.lst (((List.range ((k:Int)).toNat).map fun (j:Nat)=>V.int (0+(j:Int)))++(List.range ((w.length:Int)+2 - ((k:Int)+2)).toNat).map fun (j:Nat)=>V.int ((k:Int)+2+(j:Int)))) n5
  have Cf:=(s1.trans s4).trans s5
  refine ⟨d,c,p5,bs,os,_,jh k,rfl,zu.same Cf,hH.nd,hH.bl,by omega,ae,hH.pl hw fun i hi=>LR hk hi,hH.pb hw fun i j hi e=>?_,fun JX H6 wM xC lE s6=>?_⟩
  ·unfold jh at e
   split at e<;>(cases e;omega)
  obtain ⟨f1,f2,f3⟩:=WC _ Cf JX H6 lE s6
  have xX:j<JX.length:=by
   have:=congrArg List.length xC
   rw[List.length_map,List.length_map]at this
   rw[this]
   exact (List.getElem?_eq_some_iff.mp ho).1
  have HM:JX[j]? =some JX[j]:=List.getElem?_eq_getElem xX
  generalize RA:JX[j]=o1 at HM
  have gS:bw o1=bZ c (jh k) (bw o):=by
   have:=congrArg (fun l=>l[j]?) xC
   simp only[List.getElem?_map,HM,ho]at this
   exact Option.some.inj this
  have qI:o1.ps.length=o.ps.length:=by
   have:=congrArg List.length gS
   rw[lj]at this
   unfold bw at this
   rwa [List.length_map,List.length_map]at this
  have B1:=List.mem_of_getElem? HM
  have MY:=wM.ok o1 B1
  have ZP:cj H6 d (V.str (S [PyProof.Rows.lo1 x])) (some (.ref o1.o)):=by rw[<-c_ hH.nd hb HM];exact cj.k (k:=kS [PyProof.Rows.lo1 x]) wM.dk
  refine ⟨_,rfl,_,rfl,rfl,x,rfl,rfl,hx.lt,d,_,rfl,ZP, .inl ⟨rfl,_,aJ.of MY.tp⟩,?_⟩
  refine ⟨_,rfl,_,rfl,_,rfl,_,_,rfl,rfl,by show 2<=sizeLine;decide,fun t1 JL=>?_⟩
  have ek:(k:Int)+1=((k+1:Nat):Int):=by omega
  rw[show (fun i j:Int=>V.int (i+j)) (k:Int) 1=V.int ((k+1:Nat):Int) from congrArg V.int ek]
  have mj:=ai.upd (o:=HO.tup [V.int c,V.int ((k+1:Nat):Int)]) JL
  have JJ:upd H6 t1 (HO.tup [V.int c,V.int ((k+1:Nat):Int)]) t1=some (HO.tup [V.int c,V.int ((k+1:Nat):Int)]):=ae
  have MZ:=wM.same mj
  have WD:=mj _ _ MY.tp
  generalize upd H6 t1 (HO.tup [V.int c,V.int ((k+1:Nat):Int)])=H7 at mj JJ MZ WD ⊢
  refine ⟨o1.o,_,n,_,rfl,rfl,WD,by rw[bg];omega,by rw[bg];omega,?_⟩
  rw[show (de o1.ps).take n++V.ref t1::(de o1.ps).drop n=de (o1.ps.take n++(⟨t1,c,k+1⟩:Pr)::o1.ps.drop n) from wq o1.ps n ⟨t1,c,k+1⟩]
  generalize Em:o1.ps.take n++(⟨t1,c,k+1⟩:Pr)::o1.ps.drop n=nj
  have ZQ:nj.length=o1.ps.length+1:=by rw[<-Em];simp;omega
  have M0: ∀p∈nj,p∈o1.ps\/p=⟨t1,c,k+1⟩:=fun p hp=>by
   rw[<-Em]at hp
   rcases List.mem_append.mp hp with g | g
   ·exact .inl (List.mem_of_mem_take g)
   ·rcases List.mem_cons.mp g with g | g
    ·exact .inr g
    ·exact .inl (List.mem_of_mem_drop g)
  have RB: ∀p∈nj,f_ H7 p:=fun p hp=>by
   rcases M0 p hp with g | g
   ·exact (MZ.ok o1 B1).pr p g
   ·rw[g];exact ⟨JJ,by show c<1000;omega,by show k+1<1000;omega⟩
  have JY:=MZ.mut HM RB (by omega)
  have h8:upd H7 o1.o (HO.lst (de nj)) o1.o=some (HO.lst (de nj)):=ae
  have FH:aI o1.o H7 (upd H7 o1.o (HO.lst (de nj))):=fun a u ea z=>by rw[aj z];exact ea
  generalize upd H7 o1.o (HO.lst (de nj))=H8 at JY h8 FH ⊢
  have yD:(JX.set j ⟨o1.o,nj⟩)[j]? =some ⟨o1.o,nj⟩:=List.getElem?_set_self xX
  have ZR:cj H8 d (V.str (S [PyProof.Rows.lo1 x])) (some (.ref o1.o)):=by rw[<-c_ hH.nd hb yD];exact cj.k (k:=kS [PyProof.Rows.lo1 x]) JY.dk
  refine ⟨_,rfl,_,rfl,rfl,x,rfl,rfl,hx.lt,d,_,rfl,ZR, .inl ⟨rfl,_,aJ.of h8⟩,?_⟩
  refine ⟨_,rfl,_,rfl,_,rfl,by show 2<=sizeLine;decide,fun t2 JI=>?_⟩
  have iJ:=ai.upd (o:=HO.tup [V.int c,V.int k]) JI
  have QV:upd H8 t2 (HO.tup [V.int c,V.int k]) t2=some (HO.tup [V.int c,V.int k]):=ae
  have RC:=JY.same iJ
  have h9:=iJ _ _ h8
  generalize upd H8 t2 (HO.tup [V.int c,V.int k])=H9 at iJ QV RC h9 ⊢
  refine ⟨o1.o,_,n,_,rfl,rfl,h9,by rw[bg];omega,by rw[bg];omega,?_⟩
  rw[show (de nj).take n++V.ref t2::(de nj).drop n=de (nj.take n++(⟨t2,c,k⟩:Pr)::nj.drop n) from wq nj n ⟨t2,c,k⟩]
  have RE: ∀p∈nj.take n++(⟨t2,c,k⟩:Pr)::nj.drop n,f_ H9 p:=fun p hp=>by
   have old: ∀p∈nj,f_ H9 p:=fun p hp=>(RC.ok ⟨o1.o,nj⟩ (List.mem_of_getElem? yD)).pr p hp
   rcases List.mem_append.mp hp with g | g
   ·exact old p (List.mem_of_mem_take g)
   ·rcases List.mem_cons.mp g with g | g
    ·rw[g];exact ⟨QV,by show c<1000;omega,by show k<1000;omega⟩
    ·exact old p (List.mem_of_mem_drop g)
  have WE:=RC.mut yD RE (by simp;omega)
  rw[List.set_set]at WE
  have e1:nj.take n=o1.ps.take n:=by rw[<-Em,List.take_append_of_le_length (by rw[List.length_take];omega),List.take_take,Nat.min_self]
  have e2:nj.drop n=(⟨t1,c,k+1⟩:Pr)::o1.ps.drop n:=by
   rw[<-Em,List.drop_append_of_le_length (by rw[List.length_take];omega),List.drop_of_length_le (by rw[List.length_take];omega)]
   rfl
  have M3:wl≠o1.o:=fun z=>by have:=f2 o1 B1;rw[<-z,hH.wd]at this;cases this
  refine q _ _ WE ?_ ?_ (fun o' gf=>?_) fun a u ea za zb=>?_
  ·rw[List.map_set,xC]
   congr 1
   unfold bw
   show (nj.take n++(⟨t2,c,k⟩:Pr)::nj.drop n).map Pr.pair=put2 n (c,k) (c,k+1) (bZ c (jh k) (bw o))
   rw[<-gS,e1,e2]
   unfold put2 bw
   rw[List.map_append,List.map_cons,List.map_cons,List.map_take,List.map_drop]
   rfl
  ·rw[aj M3];exact iJ _ _ (FH _ _ (mj _ _ f1) M3)
  ·rcases List.mem_or_eq_of_mem_set gf with g | g
   ·exact f2 o' g
   ·rw[g];exact f2 o1 B1
  ·have gR:a≠o1.o:=ao ea (f2 o1 B1)
   rw[aj gR]
   exact iJ _ _ (FH _ _ (mj _ _ (f3 a u ea za zb)) gR)
 ·obtain ⟨d,wl,bs,os,ws,c,j,k,n,w,x,o,rfl,hH,hw,hx,hb,ho,o7,q⟩:=h
  have hs:(100000:Nat)<sizeLine:=by decide
  have El:(bX ws)[c]? =some (.str (S w)):=by unfold bX;rw[List.getElem?_map,hw];rfl
  obtain ⟨JW,vd⟩:=hH.wo w (List.mem_of_getElem? hw)
  have lN:=hH.od.ok o (List.mem_of_getElem? ho)
  have dg:cj H d (V.str (S [PyProof.Rows.lo1 x])) (some (.ref o.o)):=by rw[<-c_ hH.nd hb ho];exact cj.k (k:=kS [PyProof.Rows.lo1 x]) hH.od.dk
  refine ⟨_,rfl,_,rfl,wl,_,_,_,rfl,rfl,aJ.of hH.wd,aA El,?_⟩
  refine ⟨_,rfl,_,rfl,rfl,?_⟩
  refine ⟨x,rfl,rfl,hx.lt,d,_,rfl,dg,?_⟩
  by_cases h0:0<=k
  ·by_cases h1:k<=(w.length:Int)
   ·refine ⟨_,rfl,_,_,rfl,rfl,_,rfl,aT (decide_eq_true h0) ⟨_,rfl,w,rfl,by omega,_,_,rfl,rfl,_,rfl,a_ (by rw[decide_eq_true h1];rfl) ?_⟩⟩
    by_cases h2:0<=n
    ·exact ⟨_,rfl,_,_,rfl,rfl,_,rfl,aT (decide_eq_true h2) ⟨_,rfl,o.o,_,rfl, .inl (aJ.of lN.tp),_,_,rfl,rfl,_,rfl,aT (by rw[bg,decide_eq_false (by omega)];rfl) q⟩⟩
    ·exact ⟨_,rfl,_,_,rfl,rfl,_,rfl,a_ (decide_eq_false h2) ⟨_,rfl,aT rfl q⟩⟩
   ·exact ⟨_,rfl,_,_,rfl,rfl,_,rfl,aT (decide_eq_true h0) ⟨_,rfl,w,rfl,by omega,_,_,rfl,rfl,_,rfl,aT (by rw[decide_eq_false h1];rfl) q⟩⟩
  ·exact ⟨_,rfl,_,_,rfl,rfl,_,rfl,a_ (decide_eq_false h0) ⟨_,rfl,aT rfl q⟩⟩
theorem vm:cD P w K mg base iK 3 f7 d7 ["yard","words","orders","deed"] (m4 K):=by
 have yJ:=vj (P:=P) (w:=w) (base:=base) T
 have B2:=yI (P:=P) (w:=w) (base:=base) T
 have yK:=vk (P:=P) (w:=w) (base:=base) T
 have En:=B0 (P:=P) (w:=w) (base:=base) T
 refine T.F7.fn.ok vb (fun vs H Q E h=>sS h) (fun dS A outer s H vs Q E hr h=>?_)
 refine ⟨_,(ag (bH (aS h_ (az (aF K rfl) (pv 3) ah (fun _ _=>rfl)) (bR [115,119,97,112] (by decide+kernel)) (bq _)) (ak (aQ (ay yJ (hr.mono (by decide)) rfl T.F3.mg T.F3.fn.kp T.F3.bd .nil aR (aa (pv 2) (aa (az (aF K rfl) (pv 3) ah (fun _ _=>rfl)) (aa (az (aF K rfl) (pv 3) ah (fun _ _=>rfl)) af)))))) aY)
   (ag (bH (cU (cY eM kQ ah (az (aF K rfl) (pv 3) ah (fun _ _=>rfl)) (au (ax K rfl) rfl T.z_len PySem.boot_len (aa (pv 1) af)))) (ak (aQ dm)) aY)
   (ag (bH (aS h_ (az (aF K rfl) (pv 3) ah (fun _ _=>rfl)) (bR [111,117,116] (by decide+kernel)) (bq _)) (ak (aQ (ay B2 (hr.mono (by decide)) rfl T.F4.mg T.F4.fn.kp T.F4.bd .nil aR (aa (pv 1) (aa (pv 2) (aa (az (aF K rfl) (pv 3) ah (fun _ _=>rfl)) (aa (az (aF K rfl) (pv 3) ah (fun _ _=>rfl)) af))))))) aY)
   (ag (bH (aS h_ (az (aF K rfl) (pv 3) ah (fun _ _=>rfl)) (bR [116,117,114,110] (by decide+kernel)) (bq _)) (ak (aQ (ay yK (hr.mono (by decide)) rfl T.F6.mg T.F6.fn.kp T.F6.bd .nil aR (aa (pv 1) (aa (pv 2) (aa (az (aF K rfl) (pv 3) ah (fun _ _=>rfl)) af)))))) aY)
   (ag (bH (PW.pt (ki (aS h_ (az (aF K rfl) (pv 3) ah (fun _ _=>rfl)) (bR [105,110] (by decide+kernel)) (bq _)) (lJ (aS (kz K rfl) (az (aF K rfl) (pv 3) ah (fun _ _=>rfl)) (bb (fD rfl) rfl T.z_list boot_list (aa (pv 0) af)) (by with_unfolding_all rfl))))) (ak (aQ (ay En (hr.mono (by decide)) rfl T.F5.mg T.F5.fn.kp T.F5.bd .nil aR (aa (pv 1) (aa (pv 2) (aa (az (aF K rfl) (pv 3) ah (fun _ _=>rfl)) (aa (az (aF K rfl) (pv 3) ah (fun _ _=>rfl)) (aa (az (aF K rfl) (pv 3) ah (fun _ _=>rfl)) (aa (az (aF K rfl) (pv 3) ah (fun _ _=>rfl)) af))))))))) aY)
   (ak (aQ dm))))))),?_⟩
 rcases h with h | h
 ·obtain ⟨y,d,wl,a,os,ws,e,rfl,hy,hz,hH,hlen,ha,aX,q⟩:=h
  have hs:(100000:Nat)<sizeLine:=by decide
  have O0:=hH.wz
  cases e with
  | swap b n=>
   have h:H a=some (.tup [.str (S iy), .str (S [b]), .int n]):=ha
   obtain ⟨hb,hn⟩:=aX
   have hj:=List.idxOf_lt_length_of_mem hb
   have Jc:(aq y)[(aq y).idxOf b]? =some b:=by rw[List.getElem?_eq_getElem hj,List.getElem_idxOf hj]
   have qA:(aq y).idxOf b<os.length:=by rw[hH.od.ln];exact hj
   have ho:os[(aq y).idxOf b]? =some (os[(aq y).idxOf b]):=List.getElem?_eq_getElem qA
   generalize os[(aq y).idxOf b]=o at ho
   have eL:(os.map bw).getD ((aq y).idxOf b) []=bw o:=aK (by rw[List.getElem?_map,ho];rfl)
   rw[eL]at hn
   refine ⟨_,rfl,a,_,0,_,rfl,rfl,aN.of h,rfl,_,_,rfl,rfl,_,rfl,aT (by decide) ?_⟩
   refine ⟨_,rfl,_,rfl,a,_,1,_,rfl,rfl,aN.of h,rfl,_,rfl,a,_,2,_,rfl,rfl,aN.of h,rfl,?_⟩
   refine .inl ⟨d,aq y,os,b,_,n,o,rfl,hH.od,hH.nd,hH.bl,Jc,ho,by unfold bw at hn;rwa [List.length_map]at hn,fun H' ZU s'=>?_⟩
   have dU:=List.mem_of_getElem? ho
   refine q _ H' ZU ?_ (s' _ _ hH.wd (Ne.symm (hH.ne o dU))) (fun o' gf=> .inr ?_) fun x u ex _ _ zx=>s' x u ex fun z=>zx (by rw[z];exact List.mem_map.mpr ⟨o,dU,rfl⟩)
   ·rw[List.map_set]
    show (os.map bw).set _ ((swapAt n o.ps).map Pr.pair)=(os.map bw).set _ (gO n ((os.map bw).getD _ []))
    rw[eL,AS]
    rfl
   ·rcases List.mem_or_eq_of_mem_set gf with g | g
    ·exact List.mem_map.mpr ⟨o',g,rfl⟩
    ·rw[g];exact List.mem_map.mpr ⟨o,dU,rfl⟩
  | out c k=>
   have h:H a=some (.tup [.str (S mI), .int c, .int k]):=ha
   obtain ⟨hc,x,Ak,vX⟩:=aX
   have hw:ws[c]? =some ws[c]:=List.getElem?_eq_getElem hc
   have ew:=aK (x:=[]) hw
   generalize M4:ws[c]=w at hw ew
   rw[ew]at Ak vX
   refine ⟨_,rfl,a,_,0,_,rfl,rfl,aN.of h,rfl,_,_,rfl,rfl,_,rfl,a_ (by decide) ?_⟩
   refine ⟨_,rfl,a,_,1,_,rfl,rfl,aN.of h,rfl,_,_,rfl,rfl,_,rfl,aT (decide_eq_true (by omega)) ⟨_,rfl,wl,_,rfl, .inl (aJ.of hH.wd),_,_,rfl,rfl,_,rfl,a_ (by rw[bh,decide_eq_true (by omega)];rfl) ?_⟩⟩
   refine ⟨_,rfl,a,_,0,_,rfl,rfl,aN.of h,rfl,_,_,rfl,rfl,_,rfl,aT (by decide) ?_⟩
   refine ⟨_,rfl,_,rfl,_,rfl,a,_,1,_,rfl,rfl,aN.of h,rfl,_,rfl,a,_,2,_,rfl,rfl,aN.of h,rfl,?_⟩
   refine .inl ⟨d,wl,aq y,os,ws,c,k,w,x,rfl,hH,hw,Ak,vX,fun os' H' g1 g2 g3 g4 g5=>?_⟩
   refine q os' H' g1 ?_ ?_ (fun o ho=> .inl (g4 o ho)) fun x u ex z1 z2 _=>g5 x u ex z1 z2
   ·rw[g2];show _=(os.map bw).map (bZ c (outF k));rw[List.map_map];rfl
   ·show _=some (HO.lst (bX (ws.set c ((ws.getD c []).take k++(ws.getD c []).drop (k+2)))));rw[ew];exact g3
  | turn c=>
   have h:H a=some (.tup [.str (S gN), .int c]):=ha
   have hc:c<ws.length:=aX
   have hw:ws[c]? =some ws[c]:=List.getElem?_eq_getElem hc
   have ew:=aK (x:=[]) hw
   generalize M4:ws[c]=w at hw ew
   refine ⟨_,rfl,a,_,0,_,rfl,rfl,aN.of h,rfl,_,_,rfl,rfl,_,rfl,a_ (by decide) ?_⟩
   refine ⟨_,rfl,a,_,1,_,rfl,rfl,aN.of h,rfl,_,_,rfl,rfl,_,rfl,aT (decide_eq_true (by omega)) ⟨_,rfl,wl,_,rfl, .inl (aJ.of hH.wd),_,_,rfl,rfl,_,rfl,a_ (by rw[bh,decide_eq_true (by omega)];rfl) ?_⟩⟩
   refine ⟨_,rfl,a,_,0,_,rfl,rfl,aN.of h,rfl,_,_,rfl,rfl,_,rfl,a_ (by decide) ?_⟩
   refine ⟨_,rfl,a,_,0,_,rfl,rfl,aN.of h,rfl,_,_,rfl,rfl,_,rfl,aT (by decide) ?_⟩
   refine ⟨_,rfl,_,rfl,_,rfl,a,_,1,_,rfl,rfl,aN.of h,rfl,?_⟩
   refine ⟨d,wl,aq y,os,ws,c,w,rfl,hH,hw,fun os' H' g1 g2 g3 g4 g5=>?_⟩
   refine q os' H' g1 ?_ ?_ (fun o ho=> .inl (g4 o ho)) fun x u ex z1 z2 _=>g5 x u ex z1 z2
   ·rw[g2];show _=(os.map bw).map (bZ c (eY (ws.getD c []).length));rw[ew,List.map_map];rfl
   ·show _=some (HO.lst (bX (ws.set c ((ws.getD c []).drop 1++(ws.getD c []).take 1))));rw[ew];exact g3
  | ins c k x n=>
   have h:H a=some (.tup [.str (S AR), .int c, .int k, .str (S [x]), .int n]):=ha
   obtain ⟨hc,hk,LV,m_,hn⟩:=aX
   have hw:ws[c]? =some ws[c]:=List.getElem?_eq_getElem hc
   have ew:=aK (x:=[]) hw
   generalize M4:ws[c]=w at hw ew
   rw[ew]at hk LV
   have hb:=mC hy m_
   have hj:=List.idxOf_lt_length_of_mem hb
   have Jc:(aq y)[(aq y).idxOf (PyProof.Rows.lo1 x)]? =some (PyProof.Rows.lo1 x):=by rw[List.getElem?_eq_getElem hj,List.getElem_idxOf hj]
   have qA:(aq y).idxOf (PyProof.Rows.lo1 x)<os.length:=by rw[hH.od.ln];exact hj
   have ho:os[(aq y).idxOf (PyProof.Rows.lo1 x)]? =some (os[(aq y).idxOf (PyProof.Rows.lo1 x)]):=List.getElem?_eq_getElem qA
   generalize os[(aq y).idxOf (PyProof.Rows.lo1 x)]=o at ho
   have eL:(os.map bw).getD ((aq y).idxOf (PyProof.Rows.lo1 x)) []=bw o:=aK (by rw[List.getElem?_map,ho];rfl)
   rw[eL]at hn
   refine ⟨_,rfl,a,_,0,_,rfl,rfl,aN.of h,rfl,_,_,rfl,rfl,_,rfl,a_ (by decide) ?_⟩
   refine ⟨_,rfl,a,_,1,_,rfl,rfl,aN.of h,rfl,_,_,rfl,rfl,_,rfl,aT (decide_eq_true (by omega)) ⟨_,rfl,wl,_,rfl, .inl (aJ.of hH.wd),_,_,rfl,rfl,_,rfl,a_ (by rw[bh,decide_eq_true (by omega)];rfl) ?_⟩⟩
   refine ⟨_,rfl,a,_,0,_,rfl,rfl,aN.of h,rfl,_,_,rfl,rfl,_,rfl,a_ (by decide) ?_⟩
   refine ⟨_,rfl,a,_,0,_,rfl,rfl,aN.of h,rfl,_,_,rfl,rfl,_,rfl,a_ (by decide) ?_⟩
   refine ⟨_,rfl,a,_,0,_,rfl,rfl,aN.of h,rfl,_,_,rfl,rfl,_,rfl,aT (by decide) ?_⟩
   refine ⟨_,rfl,a,_,3,_,rfl,rfl,aN.of h,rfl,_,rfl,y,rfl,by omega,fun p np=>?_⟩
   refine ⟨p,_,rfl, .inl (aJ.of ae),rfl,dJ _,_,rfl,aT (by show qV (.str (S [x])) (bO y)=true;rw[iN];exact decide_eq_true m_) ?_⟩
   have sP:=ai.upd (o:=HO.lst (bO y)) np
   have h1:=sP _ _ h
   have ZV:=hH.same sP
   refine ⟨_,rfl,_,rfl,_,rfl,a,_,1,_,rfl,rfl,aN.of h1,rfl,_,rfl,a,_,2,_,rfl,rfl,aN.of h1,rfl,_,rfl,a,_,3,_,rfl,rfl,aN.of h1,rfl,_,rfl,a,_,4,_,rfl,rfl,aN.of h1,rfl,?_⟩
   have ng:=hlen o (List.mem_of_getElem? ho)
   refine .inl ⟨d,wl,aq y,os,ws,c,k,n,_,w,x,o,rfl,ZV,hw,hk,hy.lt x m_,Jc,ho,by unfold bw at hn;rwa [List.length_map]at hn,ng,fun os' H' g1 g2 g3 g4 g5=>?_⟩
   refine q os' H' g1 ?_ ?_ (fun o ho=> .inl (ai.free sP (g4 o ho))) fun x u ex z1 z2 _=>g5 x u (sP x u ex) z1 z2
   ·rw[g2]
    show _=((os.map bw).map (bZ c (jh k))).set _ (put2 n (c,k) (c,k+1) (bZ c (jh k) ((os.map bw).getD _ [])))
    rw[eL,List.map_map]
    rfl
   ·show _=some (HO.lst (bX (ws.set c ((ws.getD c []).take k++[x]++[bL x]++(ws.getD c []).drop k))));rw[ew];exact g3
 ·obtain ⟨y,d,wl,a,os,ws,e,rfl,hy,hz,hH,ha,o7,q⟩:=h
  have hs:(100000:Nat)<sizeLine:=by decide
  have O0:=hH.wz
  have ln:=hH.od.ln
  cases e with
  | swap x n=>
   have h:H a=some (.tup [.str (S iy), .str (S x), .int n]):=ha
   refine ⟨_,rfl,a,_,0,_,rfl,rfl,aN.of h,rfl,_,_,rfl,rfl,_,rfl,aT (by decide) ?_⟩
   refine ⟨_,rfl,_,rfl,a,_,1,_,rfl,rfl,aN.of h,rfl,_,rfl,a,_,2,_,rfl,rfl,aN.of h,rfl,?_⟩
   refine .inr ⟨d,aq y,os,x,n,rfl,hH.od,hH.nd,fun j b o hx hb ho=>?_,q _ (ai.refl _)⟩
   have hm:=List.mem_of_getElem? hb
   have hi:=List.idxOf_lt_length_of_mem hm
   obtain ⟨h1,h2⟩:=List.getElem?_eq_some_iff.mp hb
   have ej:(aq y).idxOf b=j:=LP hH.nd hi h1 ((List.getElem_idxOf hi).trans h2.symm)
   have g:=o7 b hx hm
   have eL:(os.map bw).getD ((aq y).idxOf b) []=bw o:=aK (by rw[ej,List.getElem?_map,ho];rfl)
   rw[eL]at g
   unfold bw at g
   rwa [List.length_map]at g
  | out c k=>
   have h:H a=some (.tup [.str (S mI), .int c, .int k]):=ha
   refine ⟨_,rfl,a,_,0,_,rfl,rfl,aN.of h,rfl,_,_,rfl,rfl,_,rfl,a_ (by decide) ?_⟩
   by_cases h0:0<=c
   ·by_cases h1:c<(ws.length:Int)
    ·obtain ⟨i,rfl⟩: ∃i:Nat,c=(i:Int):=⟨c.toNat,by omega⟩
     have hi:i<ws.length:=by omega
     refine ⟨_,rfl,a,_,1,_,rfl,rfl,aN.of h,rfl,_,_,rfl,rfl,_,rfl,aT (decide_eq_true h0) ⟨_,rfl,wl,_,rfl, .inl (aJ.of hH.wd),_,_,rfl,rfl,_,rfl,a_ (by rw[bh,decide_eq_true h1];rfl) ?_⟩⟩
     refine ⟨_,rfl,a,_,0,_,rfl,rfl,aN.of h,rfl,_,_,rfl,rfl,_,rfl,aT (by decide) ?_⟩
     refine ⟨_,rfl,_,rfl,_,rfl,a,_,1,_,rfl,rfl,aN.of h,rfl,_,rfl,a,_,2,_,rfl,rfl,aN.of h,rfl,?_⟩
     have hw:ws[i]? =some ws[i]:=List.getElem?_eq_getElem hi
     have ew:=aK (x:=[]) hw
     refine .inr ⟨d,wl,aq y,os,ws,i,k,_,rfl,hH,hw,fun j x hk hx=>?_,q _ (ai.refl _)⟩
     have g:=o7 i j rfl hk hi x
     rw[ew]at g
     exact g hx
    ·exact ⟨_,rfl,a,_,1,_,rfl,rfl,aN.of h,rfl,_,_,rfl,rfl,_,rfl,aT (decide_eq_true h0) ⟨_,rfl,wl,_,rfl, .inl (aJ.of hH.wd),_,_,rfl,rfl,_,rfl,aT (by rw[bh,decide_eq_false h1];rfl) (q _ (ai.refl _))⟩⟩
   ·exact ⟨_,rfl,a,_,1,_,rfl,rfl,aN.of h,rfl,_,_,rfl,rfl,_,rfl,a_ (decide_eq_false h0) ⟨_,rfl,aT rfl (q _ (ai.refl _))⟩⟩
  | turn c=>
   have h:H a=some (.tup [.str (S gN), .int c]):=ha
   have Rl: ¬(0<=c/\c<(ws.length:Int)):=o7
   refine ⟨_,rfl,a,_,0,_,rfl,rfl,aN.of h,rfl,_,_,rfl,rfl,_,rfl,a_ (by decide) ?_⟩
   by_cases h0:0<=c
   ·exact ⟨_,rfl,a,_,1,_,rfl,rfl,aN.of h,rfl,_,_,rfl,rfl,_,rfl,aT (decide_eq_true h0) ⟨_,rfl,wl,_,rfl, .inl (aJ.of hH.wd),_,_,rfl,rfl,_,rfl,aT (by rw[bh,decide_eq_false (by omega)];rfl) (q _ (ai.refl _))⟩⟩
   ·exact ⟨_,rfl,a,_,1,_,rfl,rfl,aN.of h,rfl,_,_,rfl,rfl,_,rfl,a_ (decide_eq_false h0) ⟨_,rfl,aT rfl (q _ (ai.refl _))⟩⟩
  | ins c k x n=>
   have h:H a=some (.tup [.str (S AR), .int c, .int k, .str (S x), .int n]):=ha
   refine ⟨_,rfl,a,_,0,_,rfl,rfl,aN.of h,rfl,_,_,rfl,rfl,_,rfl,a_ (by decide) ?_⟩
   by_cases h0:0<=c
   ·by_cases h1:c<(ws.length:Int)
    ·obtain ⟨i,rfl⟩: ∃i:Nat,c=(i:Int):=⟨c.toNat,by omega⟩
     have hi:i<ws.length:=by omega
     refine ⟨_,rfl,a,_,1,_,rfl,rfl,aN.of h,rfl,_,_,rfl,rfl,_,rfl,aT (decide_eq_true h0) ⟨_,rfl,wl,_,rfl, .inl (aJ.of hH.wd),_,_,rfl,rfl,_,rfl,a_ (by rw[bh,decide_eq_true h1];rfl) ?_⟩⟩
     refine ⟨_,rfl,a,_,0,_,rfl,rfl,aN.of h,rfl,_,_,rfl,rfl,_,rfl,a_ (by decide) ?_⟩
     refine ⟨_,rfl,a,_,0,_,rfl,rfl,aN.of h,rfl,_,_,rfl,rfl,_,rfl,a_ (by decide) ?_⟩
     refine ⟨_,rfl,a,_,0,_,rfl,rfl,aN.of h,rfl,_,_,rfl,rfl,_,rfl,aT (by decide) ?_⟩
     refine ⟨_,rfl,a,_,3,_,rfl,rfl,aN.of h,rfl,_,rfl,y,rfl,by omega,fun p np=>?_⟩
     have sP:=ai.upd (o:=HO.lst (bO y)) np
     by_cases hx: ∃l∈y,x=[l]
     ·obtain ⟨l,hl,rfl⟩:=hx
      refine ⟨p,_,rfl, .inl (aJ.of ae),rfl,dJ _,_,rfl,aT (by show qV (.str (S [l])) (bO y)=true;rw[iN];exact decide_eq_true hl) ?_⟩
      have GA:=sP _ _ h
      refine ⟨_,rfl,_,rfl,_,rfl,a,_,1,_,rfl,rfl,aN.of GA,rfl,_,rfl,a,_,2,_,rfl,rfl,aN.of GA,rfl,_,rfl,a,_,3,_,rfl,rfl,aN.of GA,rfl,_,rfl,a,_,4,_,rfl,rfl,aN.of GA,rfl,?_⟩
      have hw:ws[i]? =some ws[i]:=List.getElem?_eq_getElem hi
      have ew:=aK (x:=[]) hw
      have hb:=mC hy hl
      have hj:=List.idxOf_lt_length_of_mem hb
      have Jc:(aq y)[(aq y).idxOf (PyProof.Rows.lo1 l)]? =some (PyProof.Rows.lo1 l):=by rw[List.getElem?_eq_getElem hj,List.getElem_idxOf hj]
      have qA:(aq y).idxOf (PyProof.Rows.lo1 l)<os.length:=by rw[ln];exact hj
      have ho:os[(aq y).idxOf (PyProof.Rows.lo1 l)]? =some (os[(aq y).idxOf (PyProof.Rows.lo1 l)]):=List.getElem?_eq_getElem qA
      have eL:(os.map bw).getD ((aq y).idxOf (PyProof.Rows.lo1 l)) []=bw os[(aq y).idxOf (PyProof.Rows.lo1 l)]:=aK (by rw[List.getElem?_map,ho];rfl)
      have g:=o7 i l rfl hi rfl hl
      rw[ew,eL]at g
      unfold bw at g
      rw[List.length_map]at g
      exact .inr ⟨d,wl,aq y,os,ws,i,_,k,n,_,l,_,rfl,hH.same sP,hw,hy.lt l hl,Jc,ho,g,q _ sP⟩
     ·refine ⟨p,_,rfl, .inl (aJ.of ae),rfl,dJ _,_,rfl,a_ (by show qV (.str (S x)) (bO y)=false;exact jA fun l hl z=>hx ⟨l,hl,z⟩) ?_⟩
      exact q _ sP
    ·exact ⟨_,rfl,a,_,1,_,rfl,rfl,aN.of h,rfl,_,_,rfl,rfl,_,rfl,aT (decide_eq_true h0) ⟨_,rfl,wl,_,rfl, .inl (aJ.of hH.wd),_,_,rfl,rfl,_,rfl,aT (by rw[bh,decide_eq_false h1];rfl) (q _ (ai.refl _))⟩⟩
   ·exact ⟨_,rfl,a,_,1,_,rfl,rfl,aN.of h,rfl,_,_,rfl,rfl,_,rfl,a_ (decide_eq_false h0) ⟨_,rfl,aT rfl (q _ (ai.refl _))⟩⟩
omit T in theorem tI:bc ["self","at"] ["self","at"] (ar eI):=⟨rfl,rfl,rfl,by decide+kernel,rfl,by decide+kernel,by decide+kernel⟩
theorem tJ:cD P w K mg base iK 1 dc iG ["self","at"] (v_ aw "at"):=by
 refine T.Bu.ok tI (fun vs H Q E h=>Ht h) (fun dS A outer s H vs Q E hr h=>?_)
 refine ⟨_,(ag (bE (Aw T.xb rfl T.lx (aa (pv 0) (aa (pv 1) af)))) (ak (Dm (pv 0) (pv 1) rfl))),?_⟩
 obtain ⟨e,v,rfl,he,q⟩:=h
 exact ⟨_,rfl,_,rfl,e,aw,none,[v],rfl,by show 1<=sizeLine;decide,he,T.eS,_,rfl,_,rfl,e,aw,rfl,T.eS,T.n_NoDeed_at, .inl ⟨he,q⟩⟩
theorem Eo:cD P w K mg base (Lv P w K) 4 f8 d8 ["yard","drawing","deeds"] (wH K aw):=by
 have wO:=BZ (P:=P) (w:=w) (base:=base) T
 have yL:=vm (P:=P) (w:=w) (base:=base) T
 have vn:=tJ (P:=P) (w:=w) (base:=base) T
 refine T.F8.fn.X4 gK (fun vs H Q E h=>Bk h) (fun dS A outer s H vs Q E hr h=>?_)
 refine ⟨_,(ag (aB (i:=3) gK.nd rfl (Or.inl rfl) (bb (cZ K rfl) rfl T.z_list boot_list (aa (az (aF K rfl) (pv 1) ah (fun _ _=>rfl)) af)))
   (ag (aB (i:=4) gK.nd rfl (Or.inr rfl) rq)
   (ag (cn (PassesOwn.leaving) rfl (AE K rfl rfl T.z_zip (aa (ay wO (hr.mono (by decide)) rfl T.F1.mg T.F1.fn.kp T.F1.bd .nil aR (aa (pv 0) af)) (aa (az (aF K rfl) (pv 1) ah (fun _ _=>rfl)) af))) (ck (n:=2) K rfl rfl (aP (aD (i:=5) gK.nd rfl (Or.inl rfl)) (aP (aD (i:=6) gK.nd rfl (Or.inl rfl)) bV))) (ak (jZ (cH hr) (pv 4) (pv 5) (bb (cZ K rfl) rfl T.z_list boot_list (aa (pv 6) af)) rfl)))
   (ag (cn (PassesOwn.leaving) rfl (fE K rfl rfl T.z_enumerate (aa (pv 2) af)) (ck (n:=2) K rfl rfl (aP (aD (i:=7) gK.nd rfl (Or.inl rfl)) (aP (aD (i:=8) gK.nd rfl (Or.inl rfl)) bV))) (ak (bH (cU (fW (ay yL (hr.mono (by decide)) rfl T.F7.mg T.F7.fn.kp T.F7.bd .nil aR (aa (pv 0) (aa (pv 3) (aa (pv 4) (aa (pv 8) af))))))) (ak (xE K H rfl rfl hr.hd Hh (Av T.Bt vn (hr.mono (by decide)) rfl T.s_ T.Bv (aa (pv 7) af)))) aY)))
   (ak (aQ (bA (aa (bb (br K rfl) rfl T.z_tuple boot_tuple (aa (pv 3) af)) (aa (bb (br K rfl) rfl T.z_tuple boot_tuple (aa (bS ["band","orders"] [none,some 4] (uu (ay wO (hr.mono (by decide)) rfl T.F1.mg T.F1.fn.kp T.F1.bd .nil aR (aa (pv 0) af))) ⟨⟨rfl,rfl,by first | exact .inl rfl | exact .inr rfl⟩,trivial⟩ (fun _ _ _ _=>(aD (i:=0) (by decide+kernel:List.Nodup (["band","orders"]:List Str)) rfl (Or.inl rfl))) (fun _ _ _ _=>hV) (fun _ _ _ _=>(bb (br K rfl) rfl T.z_tuple boot_tuple (aa (bW (cH hr) (pv 1) (pv 0) (fun _ _=>rfl)) af)))) af)) af))))))))),?_⟩
 have T0:=T
 obtain ⟨y,dr,ws,os,ep,ds,rfl,hy,hz,hg,hd,FG,MR,JT,hE⟩:=h
 generalize hP:(fun (fN:List (List Nat)) (L':cy)=> ∀(lO:Addr) (os':List Od) (H':Hp),e_ H' lO fN os'->os'.map bw=L'->Good y fN (os'.map bw)->ai H H'->Q (.ref lO) H')=P0 at hE
 generalize hR:(fun k:Nat=> ∀(d:Addr) (H':Hp),H' d=some (qF d [("at", .int k)])->ai H H'->E (.ref aw) (some d) H')=R0 at hE
 have hs:(100000:Nat)<sizeLine:=by decide
 have zg:=cK hy
 have xY:=oZ hy
 have ng:os.length=(aq y).length:=by have:=hg.lk.1;rwa [List.length_map]at this
 obtain ⟨⟨wt,ot,d1,d2,d3⟩,dO⟩:=id hd
 refine ⟨_,rfl,dr,_,0,_,rfl,rfl,aN.of d1,rfl,wt,_,rfl, .inr (aN.of d2),fun wl Eb=>?_⟩
 have s1:=ai.upd (o:=HO.lst (bX ws)) Eb
 have jr:upd H wl (HO.lst (bX ws)) wl=some (HO.lst (bX ws)):=ae
 generalize upd H wl (HO.lst (bX ws))=H1 at s1 jr ⊢
 intro d nd
 have s2:=ai.upd (o:=HO.dK []) nd
 have hd2:upd H1 d (HO.dK []) d=some (HO.dK []):=ae
 have M5:=s2 _ _ jr
 have JZ:H d=none:=ai.free s1 nd
 have ZW:d≠wl:=Ne.symm (ao jr nd)
 have BO:=s1.trans s2
 generalize upd H1 d (HO.dK [])=H2 at s2 hd2 M5 BO ⊢
 refine ⟨_,rfl,y,rfl,fun c hc=>(hy.lt c hc).lt,by omega,fun l0 H3 jG JC s3=>?_⟩
 have el:=fS jG JC
 subst el
 have wN:=BO.trans s3
 have Co:=s3 _ _ hd2
 have M6:=s3 _ _ M5
 refine ⟨_,rfl,dr,_,1,_,rfl,rfl,aN.of (wN _ _ d1),rfl,?_⟩
 refine ⟨_,ot,rfl,⟨_,aN.of (wN _ _ d3)⟩,?_⟩
 refine C_ (Sq1:=LI (aq y)) (Sq2:=C8 K ot) (xs:=bO (aq y)) (ys:=lG os) (fun i σ H'=> ∃(bv ov:Option V) (cur:List Od),σ=[some (.str (S y)),some (.ref dr),some (.ref ep),some (.ref wl),some (.ref d),bv,ov,none,none]/\cur.length=i/\H' d=some (.dK (cW ((aq y).take i) cur))/\(cur.map Od.o).Nodup/\(∀o∈cur,jv H' o)/\cur.map bw=(os.take i).map bw/\(∀o∈cur,H3 o.o=none)/\aI d H3 H') (by rw[aU,j6];exact ng.symm)
  ⟨none,none,[],rfl,rfl,Co,List.nodup_nil,by simp,rfl,by simp,aI.refl _ _⟩ (fun i σ H' _ ⟨_,_,_,_,_,_,_,_,_,_,s⟩=>⟨rfl,aN.of (s _ _ (wN _ _ d3) (ao d3 JZ))⟩) ?_ ?_
 ·rintro i x z σ H4 T hx WG ⟨bv,ov,cur,rfl,yF,lP,RF,M7,J0,O1,s4⟩ nT
  obtain ⟨b,hb,rfl⟩:=dB hx
  have hi:i<(aq y).length:=(List.getElem?_eq_some_iff.mp hb).1
  have vf:i<os.length:=by omega
  have pB:os[i]? =some os[i]:=List.getElem?_eq_getElem vf
  have NS:z=V.ref os[i].o:=by rw[kF pB]at WG;exact (Option.some.inj WG).symm
  subst NS
  have dU:os[i]∈os:=List.getElem_mem vf
  generalize os[i]=o at pB dU
  have aX:=dO o dU
  have sT:=ai.upd (o:=HO.tup [V.str (S [b]),V.ref o.o]) nT
  have hTd:T≠d:=Ne.symm (ao lP nT)
  refine ⟨T,_,rfl,aN.of ae,rfl,_,_,rfl,_,_,rfl,rfl,?_⟩
  have ZX:gI H4 o:=⟨s4 _ _ (wN _ _ aX.tp) (ao aX.tp JZ),fun p hp=>⟨s4 _ _ (wN _ _ (aX.pr p hp).tp) (ao (aX.pr p hp).tp JZ),(aX.pr p hp).cz,(aX.pr p hp).iz⟩,aX.fw⟩
  have RG:=ZX.same sT
  have BQ:=sT _ _ lP
  have ZY: ∀o∈cur,jv (upd H4 T (HO.tup [V.str (S [b]),V.ref o.o])) o->True:=fun _ _ _=>trivial
  refine ⟨_,rfl,o.o,_,rfl, .inr (aN.of RG.tp),fun p6 n6=>?_⟩
  have s6:=ai.upd (o:=HO.lst (de o.ps)) n6
  have RH:=sT.trans s6
  have BR:=s6 _ _ BQ
  have WH:H4 p6=none:=ai.free sT n6
  have WI:p6≠d:=Ne.symm (ao BQ n6)
  have M8:jv (upd (upd H4 T (HO.tup [V.str (S [b]),V.ref o.o])) p6 (HO.lst (de o.ps))) ⟨p6,o.ps⟩:=⟨ae,fun p hp=>(RG.pr p hp).same s6,RG.fw⟩
  generalize upd (upd H4 T (HO.tup [V.str (S [b]),V.ref o.o])) p6 (HO.lst (de o.ps))=H6 at s6 RH BR M8 ⊢
  have RI:cf (cW ((aq y).take i) cur) (kS [b])=none:=oS fun m=>by
   obtain ⟨k,hk,e⟩:=List.mem_iff_getElem.mp m
   rw[List.length_take]at hk
   rw[List.getElem_take]at e
   have:=List.pairwise_iff_getElem.mp xY k i (by omega) hi (by omega)
   rw[e,(List.getElem?_eq_some_iff.mp hb).2]at this
   exact this rfl
  have htl:((aq y).take i).length=i:=by rw[List.length_take];omega
  refine ⟨_,rfl,_,rfl,d,_,rfl,mn.k (k:=kS [b]) BR (by rw[mF (by omega)];omega),?_⟩
  rw[ig _ RI]
  have eo:cW ((aq y).take i) cur++[(kS [b],V.ref p6)]=cW ((aq y).take (i+1)) (cur++[⟨p6,o.ps⟩]):=by
   rw[<-take_snoc hb]
   exact xZ (o:=⟨p6,o.ps⟩) (by omega)
  rw[eo]
  have up: ∀{x:Od},jv H6 x->x.o≠d->jv (upd H6 d (.dK (cW ((aq y).take (i+1)) (cur++[⟨p6,o.ps⟩])))) x:=fun {x} hx gR=>
   ⟨by rw[aj gR];exact hx.tp,fun p hp=>⟨by rw[aj (fun z=>by have:=(hx.pr p hp).tp;rw[z,BR]at this;cases this)];exact (hx.pr p hp).tp,(hx.pr p hp).cz,(hx.pr p hp).iz⟩,hx.fw⟩
  refine ⟨_,_,cur++[⟨p6,o.ps⟩],rfl,by simp[yF],ae,?_,fun x hx=>?_,?_,fun x hx=>?_,fun a u ea zz=>?_⟩
  ·rw[List.map_append,List.nodup_append]
   refine ⟨RF,by simp,fun a ha b' E9 e=>?_⟩
   obtain ⟨o',gf,rfl⟩:=List.mem_map.mp ha
   have e2:b'=p6:=by simpa using E9
   have:=(M7 o' gf).tp
   rw[e,e2,WH]at this
   cases this
  ·rcases List.mem_append.mp hx with g | g
   ·exact up ((M7 x g).same RH) (fun zz=>by have:=(M7 x g).tp;rw[zz,lP]at this;cases this)
   ·rw[List.mem_singleton.mp g];exact up M8 WI
  ·rw[List.map_append,J0, <-take_snoc pB,List.map_append];rfl
  ·rcases List.mem_append.mp hx with g | g
   ·exact O1 x g
   ·rw[List.mem_singleton.mp g];exact s4.none WH WI
  ·rw[aj zz];exact RH _ _ (s4 a u ea zz)
 ·rintro σ H4 ⟨bv,ov,cur,rfl,yF,lP,RF,M7,J0,O1,s4⟩
  rw[aU]at yF lP J0
  rw[List.take_length]at lP
  rw[<-ng,List.take_length]at J0
  have ZZ:bP H4 d (aq y) cur:=⟨lP,yF,RF,M7⟩
  have RJ:H4 ep=some (.lst (kJ ds)):=s4 _ _ (wN _ _ FG) (ao FG JZ)
  have Z0:ai H H4:=fun a u ea=>s4 _ _ (wN _ _ ea) (ao ea JZ)
  have RK:=s4 _ _ M6 (Ne.symm ZW)
  have RL: ∀o∈cur,H o.o=none:=fun o ho=>ai.free wN (O1 o ho)
  refine ⟨_,rfl,ep,rfl,⟨_,aJ.of RJ⟩,?_⟩
  refine gk (K:=K) (a:=ep) (xs:=kJ ds) (fun i σ H'=> ∃(nv dv:Option V) (cu:List Od) (fN:List (List Nat)),σ=[some (.str (S y)),some (.ref dr),some (.ref ep),some (.ref wl),some (.ref d),bv,ov,nv,dv]/\bP H' d (aq y) cu/\H' wl=some (.lst (bX fN))/\Good y fN (cu.map bw)/\(∀o∈cu,o.o≠wl)/\(∀o∈cu,H o.o=none)/\Ends y P0 R0 i fN (cu.map bw) ((ds.drop i).map Rr.r)/\ai H H')
   ⟨none,none,cur,ws,rfl,ZZ,RK,by rw[J0];exact hg,fun o ho zz=>absurd (O1 o ho) (by rw[zz,M6];exact Option.some_ne_none _),RL,by rw[J0];exact hE,Z0⟩ (fun i σ H' _ ⟨_,_,_,_,_,_,_,_,_,_,_,s⟩=>aJ.of (s _ _ FG)) ?_ ?_
  ·rintro i x σ H5 T hx ⟨nv,dv,cu,fN,rfl,ni,yE,yH,Jg,Ja,tG,s5⟩ nT
   obtain ⟨dd,MT,rfl⟩:=Bj hx
   have Jb:=List.mem_of_getElem? MT
   have hi:=List.getElem?_eq_some_iff.mp MT
   have Rn:(ds.drop i).map Rr.r=dd.r::(ds.drop (i+1)).map Rr.r:=by rw[List.drop_eq_getElem_cons hi.1,hi.2];rfl
   rw[Rn]at tG
   have sT:=ai.upd (o:=HO.tup [V.int i,V.ref dd.a]) nT
   refine ⟨T,_,rfl,aN.of ae,rfl,_,_,rfl,_,_,rfl,rfl,?_⟩
   have hold:=(yH.hold hy hz ni yE Jg).same sT
   have tM:=MR dd Jb
   rcases tG with ⟨e,Ro,aX,tR⟩ | ⟨o7,Rp⟩
   ·rw[Ro]at tM
    refine ⟨_,rfl,_,rfl,_,rfl,_,rfl, .inl ⟨y,d,wl,dd.a,cu,fN,e,rfl,hy,hz,hold,fun o ho=>Nat.le_trans (yH.len o ho) (by decide),wG (tM.ts (aC.of (s5.trans sT))),aX,fun os' H' g1 g2 g3 g4 g5=>?_⟩⟩
    refine ⟨_,rfl,a_ rfl ?_⟩
    have Z1:H wl=none:=Eb
    have Z2:Good y (dW fN e) (os'.map bw):=by rw[g2];exact yH.step hy aX
    have lE: ∀o∈os',H o.o=none:=fun o ho=>by
     rcases g4 o ho with g | g
     ·exact ai.free (s5.trans sT) g
     ·obtain ⟨o',gf,eo⟩:=List.mem_map.mp g
      rw[<-eo];exact Ja o' gf
    refine ⟨_,_,os',dW fN e,rfl,g1,g3,Z2,fun o ho zz=>?_,lE,by rw[g2];exact tR,fun a u ea=>?_⟩
    ·rcases g4 o ho with g | g
     ·rw[zz,hold.wd]at g;cases g
     ·obtain ⟨o',gf,eo⟩:=List.mem_map.mp g
      exact Jg o' gf (eo.trans zz)
    ·refine g5 a u (sT _ _ (s5 a u ea)) (ao ea JZ) (ao ea Z1) fun zz=>?_
     obtain ⟨o',gf,eo⟩:=List.mem_map.mp zz
     have:=Ja o' gf
     rw[eo,ea]at this
     cases this
   ·refine ⟨_,rfl,_,rfl,_,rfl,_,rfl, .inr ⟨y,d,wl,dd.a,cu,fN,dd.r,rfl,hy,hz,hold,tM.ts (aC.of (s5.trans sT)),o7,fun H' s'=>?_⟩⟩
    refine ⟨_,rfl,aT rfl ?_⟩
    have sx:=(s5.trans sT).trans s'
    subst hR
    exact ⟨_,rfl,AB T0.eS sx fun d2 H2 hd2 s2=>Rp d2 _ hd2 (sx.trans s2)⟩
  ·rintro σ H5 ⟨nv,dv,cu,fN,rfl,ni,yE,yH,Jg,Ja,tG,s5⟩
   rw[fT,List.drop_length]at tG
   have q:P0 fN (cu.map bw):=tG
   subst hP
   have RM:=ni.ln
   refine ⟨_,rfl,wl,_,rfl, .inl ⟨aJ.of yE,fun tw OX=>?_⟩⟩
   have sw:=ai.upd (o:=HO.tup (bX fN)) OX
   have MQ:upd H5 tw (HO.tup (bX fN)) tw=some (HO.tup (bX fN)):=ae
   have wM:=ni.same sw
   have s6:=s5.trans sw
   generalize upd H5 tw (HO.tup (bX fN))=H6 at sw MQ wM s6 ⊢
   refine ⟨_,rfl,y,rfl,fun c hc=>(hy.lt c hc).lt,by omega,fun l0 H7 jG JC s7=>?_⟩
   have el:=fS jG JC
   subst el
   have MZ:=wM.same s7
   have RN:=s7 _ _ MQ
   have Cn:=s6.trans s7
   refine ⟨_,rfl,?_⟩
   refine me (xs:=bO (aq y)) (fun i acc H'=>ai H7 H'/\ ∃oo:List Od,acc=lG oo/\(∀o∈oo,gI H' o)/\oo.map bw=(cu.take i).map bw) (by rw[aU];omega) ⟨ai.refl _,[],rfl,fun _ h=>absurd h List.not_mem_nil,rfl⟩ ?_ ?_
   ·rintro i x acc H8 Nx hi hx eZ ⟨s8,oo,rfl,v7,vV⟩ nx
    obtain ⟨b,hb,rfl⟩:=dB hx
    have hib:i<(aq y).length:=(List.getElem?_eq_some_iff.mp hb).1
    have pB:cu[i]? =some cu[i]:=List.getElem?_eq_getElem (by omega)
    have dU:cu[i]∈cu:=List.getElem_mem (by omega)
    generalize cu[i]=o at pB dU
    have JY:=MZ.same s8
    refine ⟨⟨rfl,trivial⟩,fR ?_⟩
    refine ⟨_,rfl,_,rfl,d,_,rfl,by rw[<-c_ xY hb pB];exact cj.k (k:=kS [b]) JY.dk,?_⟩
    have y_:=JY.ok o dU
    refine ⟨o.o,_,rfl, .inl ⟨aJ.of y_.tp,fun t nt=>?_⟩⟩
    refine nx _ _ (by simpa using eZ) ⟨s8.trans (ai.upd nt),oo++[⟨t,o.ps⟩],mD oo ⟨t,o.ps⟩,fun o' ho=>?_,?_⟩
    ·rcases List.mem_append.mp ho with g | g
     ·exact (v7 o' g).same (ai.upd nt)
     ·have e:=List.mem_singleton.mp g
      subst e
      exact ⟨ae,fun p hp=>(y_.pr p hp).same (ai.upd nt),y_.fw⟩
    ·rw[List.map_append,vV, <-take_snoc pB,List.map_append]
     rfl
   ·rintro acc H8 D eZ ⟨s8,oo,rfl,v7,vV⟩ hD
    rw[aU, <-RM,List.take_length]at vV
    refine ⟨D,_,rfl, .inl ⟨aJ.of ae,fun t nt=>?_⟩⟩
    refine ⟨by show 2<=sizeLine;decide,fun lO BF=>?_⟩
    have sA:=(ai.upd (o:= .lst (lG oo)) hD).trans ((ai.upd (o:= .tup (lG oo)) nt).trans (ai.upd (o:= .tup [.ref tw, .ref t]) BF))
    have Mf:t≠lO:=fun z=>by rw[<-z,ae]at BF;cases BF
    exact q lO oo _ ⟨⟨tw,t,ae,sA _ _ (s8 _ _ RN),by rw[aj Mf,ae]⟩,fun o ho=>(v7 o ho).same sA⟩ vV (by rw[vV];exact yH) ((Cn.trans s8).trans sA)
theorem B3:cD P w K mg base iK 5 Fu DS ["_law_yard_here","_law_drawing_here","_law_deeds"] (sY K):=by
 have Jh:=Eo (P:=P) (w:=w) (base:=base) T
 refine T.yp.fn.ok eV (fun vs H Q E h=>yn h) (fun dS A outer s H vs Q E hr h=>?_)
 refine ⟨_,(ag (aB (i:=3) eV.nd rfl (Or.inl rfl) kh)
   (ag (aB (i:=4) eV.nd rfl (Or.inl rfl) kh)
   (ag (Ho (n:=5) T.tm rfl T.lx eV.nd rfl rfl rfl rfl rfl (fun pn W E hth qG=>(ak (aB (i:=3) eV.nd rfl (Or.inl rfl) (Ar Jh (hr.mono (by decide)) rfl T.F8.mg T.F8.fn.kp T.F8.bd .nil qG (aa (pv 0) (aa (pv 1) (aa (bb (cZ K rfl) rfl T.z_list boot_list (aa (pv 2) af)) af))))))) (fun ev=>(ak (aB (i:=4) eV.nd rfl (Or.inl rfl) (pv 5)))))
   (ag (bH (aS Gd (pv 4) kh (bq _)) (ak (aQ (bA (aa (bR [116,111,108,100] (by decide+kernel)) (aa (pv 3) af))))) aY)
   (ag (aB (i:=6) eV.nd rfl (Or.inl rfl) (au (oI K rfl) rfl T.z_isinstance boot_isinstance (aa (pv 4) (aa (bA (aa (cM (v:= .ref fe) rfl T.DT rfl) (aa (cM (v:= .ref b_) rfl T.tf rfl) (aa (cM (v:= .ref dM) rfl T.Bp rfl) (aa (cM (v:= .ref cP) rfl T.yq rfl) (aa (cM (v:= .ref ff) rfl T.DU rfl) (aa (cM (v:= .ref dN) rfl T.Bq rfl) (aa (cM (v:= .ref dP) rfl T.Br rfl) (aa (cM (v:= .ref dQ) rfl T.Bs rfl) af))))))))) af))))
   (ag (aB (i:=7) eV.nd rfl (Or.inl rfl) (au (oI K rfl) rfl T.z_isinstance boot_isinstance (aa (pv 4) (aa (bA (aa (cM (v:= .ref cC) rfl T.va rfl) (aa (cM (v:= .ref cQ) rfl T.yr rfl) (aa (cM (v:= .ref cR) rfl T.yt rfl) (aa (cM (v:= .ref fg) rfl T.DV rfl) af))))) af))))
   (ag (bH (PW.pt (jc (cU (fW (au (rH K rfl) rfl T.z_isinstance boot_isinstance (aa (pv 4) (aa (cM (v:= .ref aw) rfl T.s_ rfl) af))))) (jc (fW (pv 6)) (jc (fW (pv 7)) (gW (cU (fW (au (rH K rfl) rfl T.z_isinstance boot_isinstance (aa (pv 4) (aa (pJ (v:= .ty "ValueError") rfl T.z_ValueError Dt rfl) af)))))))))) (ak (aQ (bR [101,108,115,101] (by decide+kernel)))) aY)
   (ak (aQ (bt (aa (bR [114,101,102,117,115,101,100] (by decide+kernel)) (aa (AD K rfl (pv 4) rfl) af)))))))))))),?_⟩
 obtain ⟨y,dr,ws,os,ep,ds,rfl,hy,hz,hg,hd,FG,MR,JT,hE⟩:=h
 walk_at "rd"
 refine ⟨ep,_,rfl, .inl (aJ.of FG),fun M9 n2=>?_⟩
 have s2:=ai.upd (o:=HO.lst (kJ ds)) n2
 have M_:upd H M9 (HO.lst (kJ ds)) M9=some (HO.lst (kJ ds)):=ae
 have hd2:=hd.same s2
 have Na: ∀x∈ds,wF (upd H M9 (HO.lst (kJ ds))) x.a x.r:=fun x hx=>(MR x hx).ts (aC.of s2)
 generalize upd H M9 (HO.lst (kJ ds))=H2 at s2 M_ hd2 Na ⊢
 refine ⟨y,dr,ws,os,M9,ds,rfl,hy,hz,hg,hd2,M_,Na,by omega,hE.mono (fun fN L' q=>?_) (fun k q=>?_)⟩
 ·intro lO os' H3 g1 g2 g3 s3
  walk_at "rd"
  exact fun p np=>q p lO os' _ ae (g1.same (ai.upd np)) g2 g3 ((s2.trans s3).trans (ai.upd np))
 ·intro d H3 Co s3
  refine ⟨aw,rfl,T.r_NoDeed,fun d' z=>⟨_,by cases z;exact Co⟩,fun x nx=>?_⟩
  have sx:=ai.upd (o:=cV false x aw (some d)) nx
  have hx:upd H3 x (cV false x aw (some d)) x=some (cV false x aw (some d)):=ae
  have lP:=sx _ _ Co
  have s4:=(s2.trans s3).trans sx
  generalize upd H3 x (cV false x aw (some d))=H4 at s4 hx lP ⊢
  walk_at "rd"
  intro p np
  have sp:=ai.upd (o:= .tup [.ref fe, .ref b_, .ref dM, .ref cP, .ref ff, .ref dN, .ref dP, .ref dQ]) np
  refine ⟨x,_,_,_,p,_,_,false,rfl,sp _ _ hx,fun d' z=>⟨_,by cases z;exact sp _ _ lP⟩,T.eS,ae,rfl,kC (fun z hz=>?_),?_⟩
  ·rcases List.mem_cons.mp hz with rfl | hz
   ·exact T.k_NoDeed_NoCut
   rcases List.mem_cons.mp hz with rfl | hz
   ·exact T.k_NoDeed_NoDrawing
   rcases List.mem_cons.mp hz with rfl | hz
   ·exact T.k_NoDeed_NoName
   rcases List.mem_cons.mp hz with rfl | hz
   ·exact T.k_NoDeed_NoPaper
   rcases List.mem_cons.mp hz with rfl | hz
   ·exact T.k_NoDeed_NoRow
   rcases List.mem_cons.mp hz with rfl | hz
   ·exact T.k_NoDeed_NoText
   rcases List.mem_cons.mp hz with rfl | hz
   ·exact T.k_NoDeed_NoWord
   rcases List.mem_cons.mp hz with rfl | hz
   ·exact T.k_NoDeed_NoYard
   cases hz
  walk_at "rd"
  intro p2 tu
  have Ep:=sp.trans (ai.upd (o:= .tup [.ref cC, .ref cQ, .ref cR, .ref fg]) tu)
  refine ⟨x,_,_,_,p2,_,_,false,rfl,Ep _ _ hx,fun d' z=>⟨_,by cases z;exact Ep _ _ lP⟩,T.eS,ae,rfl,kC (fun z hz=>?_),?_⟩
  ·rcases List.mem_cons.mp hz with rfl | hz
   ·exact T.k_NoDeed_NotApart
   rcases List.mem_cons.mp hz with rfl | hz
   ·exact T.k_NoDeed_NotLone
   rcases List.mem_cons.mp hz with rfl | hz
   ·exact T.k_NoDeed_TooLong
   rcases List.mem_cons.mp hz with rfl | hz
   ·exact T.k_NoDeed_Twice
   cases hz
  walk_at "rd"
  refine ⟨x,_,_,_,_,_,true,rfl,Ep _ _ hx,fun d' z=>⟨_,by cases z;exact Ep _ _ lP⟩,T.eS,rfl,T.k_NoDeed_NoDeed,?_⟩
  walk_at "rd"
  refine ⟨x,_,_,_,_,_,true,rfl,Ep _ _ hx,fun d' z=>⟨_,by cases z;exact Ep _ _ lP⟩,T.eS,rfl,T.k_NoDeed_ValueError,?_⟩
  walk_at "rd"
  refine ⟨x,_,_,d,_,_,rfl,Ep _ _ hx,T.eS,T.n_NoDeed_at,Ep _ _ lP,rfl,?_⟩
  walk_at "rd"
  intro p3 Cq
  exact q _ _ ae (s4.trans (Ep.trans (ai.upd Cq)))
theorem Er:cD P w K mg base iK 2 Fs Oz ["_law_box_here","_law_yard_here","_law_drawing_here"] (wI K):=by
 have ba:=fK (P:=P) (w:=w) (base:=base) T
 have fL:=i4 (P:=P) (w:=w) (base:=base) T
 have cF:=gA (P:=P) (w:=w) (base:=base) T
 refine T.Iv.fn.ok dR (fun vs H Q E h=>Bm h) (fun dS A outer s H vs Q E hr h=>?_)
 refine ⟨_,(ag (fX (pv 2) (ck (n:=2) K rfl rfl (aP (aD (i:=3) dR.nd rfl (Or.inl rfl)) (aP (aD (i:=4) dR.nd rfl (Or.inl rfl)) bV))))
   (ag (aB (i:=5) dR.nd rfl (Or.inl rfl) (ay ba (hr.mono (by decide)) rfl T.cx.mg T.cx.fn.kp T.cx.bd .nil aR (aa (pv 0) (aa ah af))))
   (ag (aB (i:=6) dR.nd rfl (Or.inl rfl) (az (aH K rfl) (bt (aa ah (aa (au (ax K rfl) rfl T.z_len PySem.boot_len (aa (pv 3) af)) (aa (aE cB ah ah) (aa ah (aa (aE lU ah ah) (aa (ay ba (hr.mono (by decide)) rfl T.cx.mg T.cx.fn.kp T.cx.bd .nil aR (aa (pv 0) (aa ah af))) af))))))) (ay ba (hr.mono (by decide)) rfl T.cx.mg T.cx.fn.kp T.cx.bd .nil aR (aa (pv 0) (aa ah af))) (fun _ _=>rfl)))
   (ag (aB (i:=7) dR.nd rfl (Or.inl rfl) (aE hU (bb (fD rfl) rfl T.z_list boot_list (aa (pv 1) af)) (bt (aa (bR [] (by decide+kernel)) (aa (bR [122] (by decide+kernel)) (aa (bR [90] (by decide+kernel)) (aa (aE gG (az nA (pv 1) ah (fun _ _=>rfl)) (az nA (pv 1) ah (fun _ _=>rfl))) (aa (pv 1) af))))))))
   (ag (aB (i:=8) dR.nd rfl (Or.inr rfl) (az (aH K rfl) (pv 7) (ay ba (hr.mono (by decide)) rfl T.cx.mg T.cx.fn.kp T.cx.bd .nil aR (aa (pv 0) (aa (au (ax K rfl) rfl T.z_len PySem.boot_len (aa (pv 7) af)) af))) (fun _ _=>rfl)))
   (ag (aB (i:=9) dR.nd rfl (Or.inl rfl) (au bJ rfl T.z_len PySem.boot_len (aa (az (aF K rfl) (aE Dw (pv 3) (bA (aa (bR [] (by decide+kernel)) af))) (az (aH K rfl) (bt (aa (pv 6) (aa (aE cB ah ah) af))) (bb nQ rfl T.z_int boot_int (aa (FV (zC eM kQ ah (pv 6) (au (ax K rfl) rfl T.z_len PySem.boot_len (aa (pv 3) af)))) af)) (fun _ _=>rfl)) (fun _ _=>rfl)) af)))
   (ag (aB (i:=10) dR.nd rfl (Or.inl rfl) (az (aH K rfl) (bt (aa ah (aa (aE cB ah ah) (aa (aE cB (pv 9) ah) (aa (aE cB (pv 9) ah) (aa (pv 9) (aa (aE bz (pv 9) ah) (aa (aE lU ah ah) (aa (ay ba (hr.mono (by decide)) rfl T.cx.mg T.cx.fn.kp T.cx.bd .nil aR (aa (pv 0) (aa ah af))) af))))))))) (ay ba (hr.mono (by decide)) rfl T.cx.mg T.cx.fn.kp T.cx.bd .nil aR (aa (pv 0) (aa ah af))) (fun _ _=>rfl)))
   (ag (aB (i:=11) dR.nd rfl (Or.inl rfl) (aE hU (bS ["_law_band","_law_order_here","_law_x"] [none,none,some 8] (Ag K rfl rfl T.z_zip (aa (ay fL (hr.mono (by decide)) rfl T.tO.mg T.tO.fn.kp T.tO.bd .nil aR (aa (pv 1) af)) (aa (pv 4) af))) ⟨⟨rfl,rfl,by first | exact .inl rfl | exact .inr rfl⟩,trivial⟩ (fun _ _ _ _=>(ck (n:=2) K rfl rfl (aP (aD (i:=0) (by decide+kernel:List.Nodup (["_law_band","_law_order_here","_law_x"]:List Str)) rfl (Or.inl rfl)) (aP (aD (i:=1) (by decide+kernel:List.Nodup (["_law_band","_law_order_here","_law_x"]:List Str)) rfl (Or.inl rfl)) bV)))) (fun _ _ _ _=>(hZ (aS (kz K rfl) (pv 2) (bA (aa (pv 0) (aa (ay cF (hr.mono (by decide)) rfl T.kf.mg T.kf.fn.kp T.kf.bd .nil aR (aa (pv 0) af)) af))) (by with_unfolding_all rfl)))) (fun _ _ _ _=>(au (ax K rfl) rfl T.z_len PySem.boot_len (aa (pv 1) af)))) (bt (aa ah af))))
   (ag (aB (i:=12) dR.nd rfl (Or.inl rfl) (az (aH K rfl) (bt (aa ah (aa (aE cB ah ah) (aa (aE cB (az (aH K rfl) (pv 11) ah (fun _ _=>rfl)) ah) (aa (aE cB (az (aH K rfl) (pv 11) ah (fun _ _=>rfl)) ah) (aa (az (aH K rfl) (pv 11) ah (fun _ _=>rfl)) (aa (aE bz (az (aH K rfl) (pv 11) ah (fun _ _=>rfl)) ah) (aa (aE lU ah ah) (aa (ay ba (hr.mono (by decide)) rfl T.cx.mg T.cx.fn.kp T.cx.bd .nil aR (aa (pv 0) (aa ah af))) af))))))))) (ay ba (hr.mono (by decide)) rfl T.cx.mg T.cx.fn.kp T.cx.bd .nil aR (aa (pv 0) (aa ah af))) (fun _ _=>rfl)))
   (ak (aQ (az (aH K rfl) (bt (aa (bA (aa (bR [115,119,97,112] (by decide+kernel)) (aa (pv 8) (aa (pv 12) af)))) (aa (bA (aa (bR [111,117,116] (by decide+kernel)) (aa (pv 6) (aa (pv 10) af)))) (aa (bA (aa (bR [105,110] (by decide+kernel)) (aa (pv 6) (aa (pv 10) (aa (pv 8) (aa (pv 12) af)))))) (aa (bA (aa (bR [116,117,114,110] (by decide+kernel)) (aa (pv 6) af))) af))))) (pv 5) (fun _ _=>rfl))))))))))))),?_⟩
 obtain ⟨b,y,dr,ws,os,rfl,hb,hy,Mi,hz,hg,hd,q⟩:=h
 have hs:(100000:Nat)<sizeLine:=by decide
 obtain ⟨⟨wt,ot,d1,d2,d3⟩,dO⟩:=id hd
 have zj:=hg.kX
 have fz:=hg.lr
 have zg:=cK hy
 have ng:os.length=(aq y).length:=by have:=hg.ln;rwa [List.length_map]at this
 refine ⟨_,rfl,dr,_,rfl,aN.of d1,rfl,_,_,rfl,_,_,rfl,rfl,?_⟩
 refine ⟨_,rfl,b,4,rfl,hb,by decide,by decide,fun fm H1 VU vc s1=>?_⟩
 have WJ:=aC.box hb s1
 walk_at "rd"
 refine ⟨wt,_,rfl, .inr (aN.of (WJ _ _ d2)),?_⟩
 walk_at "rd"
 refine ⟨b,4,rfl,vc,by decide,by decide,fun c5 H2 hc5 gQ s2=>?_⟩
 walk_at "rd"
 intro p1 Ed
 have t1:=ai.upd (o:=HO.lst [V.int 0,V.int ((bX ws).length:Nat),V.int (0 - 1),V.int 4,V.int (10 ^ 20),V.int (c5:Nat)]) Ed
 have pq:p1≠b:=gQ.ne Ed
 refine ⟨_,rfl,b,6,rfl,gQ.same t1,by decide,by decide,fun r H3 hr kg s3=>?_⟩
 obtain ⟨c,hc⟩:=u_ (zs:=[0,((bX ws).length:Nat),0 - 1,4,10 ^ 20,(c5:Nat)]) (r:=r) (by show r<6;omega)
 refine ⟨p1,_,_,_,rfl,rfl,aJ.of (s3 _ _ ae pq),hc,?_⟩
 have zk:aI b H H3:=((s1.trans s2).after t1).trans s3
 clear s1 s2 t1 s3 vc gQ Ed pq hc WJ
 change i9 _ _ _ [some (.ref b),some (.str (S y)),some (.ref dr),some (.ref wt),some (.ref ot),some (.int fm),some (.int c),none,none,none,none,none,none] H3
 -- names
 have OG:y.length<=sizeLine:=by omega
 have WK:m9 y 0=some y[0]:=aA (j:=0) (List.getElem?_eq_getElem (by omega))
 refine ⟨_,rfl,y,rfl,OG,fun p2 tu=>?_⟩
 have t2:=ai.upd (o:=HO.lst (bO y)) tu
 have kW:upd H3 p2 (HO.lst (bO y)) p2=some (HO.lst (bO y)):=ae
 have pA:=kg.same t2
 have qH:=zk.after t2
 generalize upd H3 p2 (HO.lst (bO y))=H4 at kW pA qH ⊢
 clear t2 tu zk kg
 refine ⟨_,rfl,y,_,_,rfl,rfl,OG,WK,_,rfl,y,_,_,rfl,rfl,OG,WK,[y[0]],[y[0]],rfl,rfl,by show 2<=sizeLine;decide,?_⟩
 refine ⟨_,rfl,by show 5<=sizeLine;decide,fun p3 Cq=>?_⟩
 have t3:=ai.upd (o:=HO.lst [V.str (S []),V.str (S [122]),V.str (S [90]),V.str (S ([y[0]]++[y[0]])),V.str (S y)]) Cq
 refine ⟨p2,p3,_,_,rfl,rfl,t3 _ _ kW,ae,by rw[aU];show y.length+5<=sizeLine;omega,fun p4 RO=>?_⟩
 have en:bO y++[V.str (S []),V.str (S [122]),V.str (S [90]),V.str (S ([y[0]]++[y[0]])),V.str (S y)]=bX (y.map (fun c=>[c])++[[],[122],[90],[y[0]]++[y[0]],y]):=by
  unfold bO bX
  rw[List.map_append,List.map_map]
  rfl
 rw[en]
 have p_:(y.map (fun c=>[c])++[[],[122],[90],[y[0]]++[y[0]],y]).length=y.length+5:=by simp
 generalize y.map (fun c=>[c])++[[],[122],[90],[y[0]]++[y[0]],y]=O2 at p_ ⊢
 have t4:=t3.trans (ai.upd (o:=HO.lst (bX O2)) RO)
 have tE:=ae (H:=upd H4 p3 (HO.lst [V.str (S []),V.str (S [122]),V.str (S [90]),V.str (S ([y[0]]++[y[0]])),V.str (S y)])) (a:=p4) (o:=HO.lst (bX O2))
 have Z3:p4≠b:=(pA.same t3).ne RO
 have Fz:=pA.same t4
 have ve:=qH.after t4
 generalize upd (upd H4 p3 (HO.lst [V.str (S []),V.str (S [122]),V.str (S [90]),V.str (S ([y[0]]++[y[0]])),V.str (S y)])) p4 (HO.lst (bX O2))=H5 at tE Fz ve ⊢
 clear t3 t4 Cq RO kW pA qH en
 change i9 _ _ _ [some (.ref b),some (.str (S y)),some (.ref dr),some (.ref wt),some (.ref ot),some (.int fm),some (.int c),some (.ref p4),none,none,none,none,none] H5
 refine ⟨_,rfl,_,rfl,_,rfl,p4,_,rfl, .inl (aJ.of tE),b,_,rfl,Fz,by rw[bh];omega,by rw[bh];omega,fun r2 H6 Mr JN s6=>?_⟩
 rw[bh]at Mr
 obtain ⟨x,_,hx⟩:=L_ (ls:=O2) (r:=r2) (by omega)
 refine ⟨p4,_,_,_,rfl,rfl,aJ.of (s6 _ _ tE Z3),hx,?_⟩
 have JM:=ve.trans s6
 clear ve s6 Fz hx tE
 have IU:=aC.box hb JM
 change i9 _ _ _ [some (.ref b),some (.str (S y)),some (.ref dr),some (.ref wt),some (.ref ot),some (.int fm),some (.int c),some (.ref p4),some (.str (S x)),none,none,none,none] H6
 have uk: ∀(HX:Hp) (Qk:VK),HX wt=some (.tup (bX ws))->(∀(z:Int) (HY:Hp),((z=c/\0<=c/\c<(ws.length:Int))\/z= -1)->ai HX HY->Qk (.int z) HY)->Jw (Gm K) (Kr (kT (zy 6) (kT (Jw (w9 fun i j=>V.int (i - j)) (tC (V.int 0)) (tC (V.int 1))) zD)))
   (NL (fun (xs:List V) (H:Hp) (Q:VK)=>(∃i,xs=[V.int i]/\Q (V.int i) H)\/ ∃k,xs=[V.bl k]/\Q (V.int (if k=true then 1 else 0)) H) (kT (EH (t_ (w9 fun i j=>V.bl (decide (i<=j))) (w9 fun i j=>V.bl (decide (i<j))) (tC (V.int 0)) (zy 6) (NL (EX K) (kT (zy 3) zD)))) zD))
   [some (.ref b),some (.str (S y)),some (.ref dr),some (.ref wt),some (.ref ot),some (.int fm),some (.int c),some (.ref p4),some (.str (S x)),none,none,none,none] HX Qk:=by
  intro HX Qk WL k
  refine ⟨_,rfl,_,_,rfl,rfl,by show 2<=sizeLine;decide,fun p np=>?_⟩
  have sp:=ai.upd (o:=HO.lst [V.int c,V.int (0 - 1)]) np
  by_cases h0:0<=c
  ·by_cases h1:c<(ws.length:Int)
   ·refine ⟨_,rfl,_,_,rfl,rfl,_,rfl,aT (decide_eq_true h0) ⟨_,rfl,wt,_,rfl, .inr (aN.of (sp _ _ WL)),_,_,rfl,rfl,?_⟩⟩
    exact ⟨true,by show V.bl (decide (c<((bX ws).length:Int)))=_;rw[bh,decide_eq_true h1], .inr ⟨_,rfl,p,_,0,_,rfl,rfl,aJ.of ae,rfl,k c _ (.inl ⟨rfl,h0,h1⟩) sp⟩⟩
   ·refine ⟨_,rfl,_,_,rfl,rfl,_,rfl,aT (decide_eq_true h0) ⟨_,rfl,wt,_,rfl, .inr (aN.of (sp _ _ WL)),_,_,rfl,rfl,?_⟩⟩
    exact ⟨false,by show V.bl (decide (c<((bX ws).length:Int)))=_;rw[bh,decide_eq_false h1], .inr ⟨_,rfl,p,_,1,_,rfl,rfl,aJ.of ae,rfl,k _ _ (.inr rfl) sp⟩⟩
  ·refine ⟨_,rfl,_,_,rfl,rfl,_,rfl,a_ (decide_eq_false h0) ?_⟩
   exact ⟨_,rfl, .inr ⟨_,rfl,p,_,1,_,rfl,rfl,aJ.of ae,rfl,k _ _ (.inr rfl) sp⟩⟩
 refine ⟨_,rfl,by show 1<=sizeLine;decide,fun p5 WM=>?_⟩
 have t5:=ai.upd (o:=HO.tup [V.str (S [])]) WM
 refine ⟨wt,p5,_,_,rfl,rfl,t5 _ _ (IU _ _ d2),ae,by rw[bh];show ws.length+1<=sizeLine;omega,fun p6 H7 Cn tR=>?_⟩
 replace Cn:ai H6 H7:=t5.trans Cn
 have Ms:=JN.same Cn
 have IE:=JM.after Cn
 refine uk _ _ (Cn _ _ (IU _ _ d2)) (fun z H8 WO FH=>?_)
 have ec:bX ws++[V.str (S [])]=bX (ws++[[]]):=by unfold bX;rw[List.map_append];rfl
 rw[ec]at tR
 obtain ⟨w,Z4,hw⟩: ∃w:List Nat,w.length<=40/\m9 (bX (ws++[[]])) z=some (V.str (S w)):=by
  rcases WO with ⟨rfl,h0,h1⟩ | rfl
  ·obtain ⟨j,rfl⟩: ∃j:Nat,z=(j:Int):=⟨z.toNat,by omega⟩
   have hj:j<ws.length:=by omega
   refine ⟨ws[j],(fz _ (List.getElem_mem hj)).2,aA ?_⟩
   unfold bX
   rw[List.getElem?_map,List.getElem?_append_left hj,List.getElem?_eq_getElem hj]
   rfl
  ·refine ⟨[],Nat.zero_le _,?_⟩
   rw[<-ec]
   exact zF _ _
 refine ⟨p6,_,_,_,rfl,rfl,aN.of (FH _ _ tR),hw,w,rfl,by omega,?_⟩
 have Mm:=Ms.same FH
 have O3:=IE.after FH
 clear JM IE Cn FH JN Ms t5 WM tR hw uk ec WO
 generalize w.length=many
 change i9 _ _ _ [some (.ref b),some (.str (S y)),some (.ref dr),some (.ref wt),some (.ref ot),some (.int fm),some (.int c),some (.ref p4),some (.str (S x)),some (.int many),none,none,none] H8
 walk_at "rd"
 refine ⟨b,12,rfl,Mm,by decide,by decide,fun r3 H9 OE Mt s9=>?_⟩
 refine ⟨by show 8<=sizeLine;decide,fun p7 RP=>?_⟩
 have t7:=ai.upd (o:=HO.lst [V.int 0,V.int (0 - 1),V.int ((many:Nat) - 2),V.int ((many:Nat) - 1),V.int (many:Nat),V.int ((many:Nat)+1),V.int (10 ^ 20),V.int (r3:Nat)]) RP
 have WQ:p7≠b:=Mt.ne RP
 refine ⟨_,rfl,b,8,rfl,Mt.same t7,by decide,by decide,fun r4 D_ Bz nI RQ=>?_⟩
 obtain ⟨i,hi⟩:=u_ (zs:=[0,0 - 1,(many:Nat) - 2,(many:Nat) - 1,(many:Nat),(many:Nat)+1,10 ^ 20,(r3:Nat)]) (r:=r4) (by show r4<8;omega)
 refine ⟨p7,_,_,_,rfl,rfl,aJ.of (RQ _ _ ae WQ),hi,?_⟩
 have vh:aI b H D_:=((O3.trans s9).after t7).trans RQ
 clear O3 s9 t7 RQ Mm Mt RP WQ hi
 change i9 _ _ _ [some (.ref b),some (.str (S y)),some (.ref dr),some (.ref wt),some (.ref ot),some (.int fm),some (.int c),some (.ref p4),some (.str (S x)),some (.int many),some (.int i),none,none] D_
 -- WR
 have yB:=aC.box hb vh
 have Ji:=yB _ _ d3
 have Nb: ∀o∈os,gI D_ o:=fun o ho=>(dO o ho).ts yB
 refine ⟨_,rfl,y,rfl,by omega,fun nm l2 QX n2 nh jd jC wK=>?_⟩
 rw[eA hy.lt]at jd
 have el:=fS jd jC
 subst el
 have vg:=nI.same wK
 have Nd:=vh.after wK
 have JK:nm≠b:=nI.ne n2
 refine ⟨_,rfl,nm,ot,rfl,⟨_,aJ.of nh⟩,⟨_,aN.of (wK _ _ Ji)⟩,?_⟩
 refine Ah (Sq1:=Ll K nm) (Sq2:=C8 K ot) (xs:=bO (aq y)) (ys:=lG os) (fun i acc H'=>ai QX H'/\ ∃zs:List Int,acc=zs.map V.int/\zs.length<=i) (by rw[aU,j6];exact ng.symm) (by rw[aU];omega) (fun i acc H' h=>⟨aJ.of (h.1 _ _ nh),aN.of (h.1 _ _ (wK _ _ Ji))⟩) ⟨ai.refl _,[],rfl,Nat.le_refl _⟩ ?_ ?_
 ·rintro j bv ov acc Mq T' Nx Z5 BW eZ ⟨BO,zs,rfl,WS⟩ nT nx
  obtain ⟨nb,ke,rfl⟩:=dB Z5
  have nH:=j7 hy (List.mem_of_getElem? ke)
  have qA:j<os.length:=by have:=(List.getElem?_eq_some_iff.mp ke).1;omega
  have RA:os[j]? =some os[j]:=List.getElem?_eq_getElem qA
  have dU:=List.getElem_mem qA
  have y8:ov=V.ref os[j].o:=by rw[kF RA]at BW;exact (Option.some.inj BW).symm
  subst y8
  generalize os[j]=o at RA dU
  refine ⟨T',_,rfl,aN.of ae,rfl,_,_,rfl,_,_,rfl,rfl,?_⟩
  have sT:=BO.trans (ai.upd (o:=HO.tup [.str (S [nb]), .ref o.o]) nT)
  refine ⟨⟨rfl,trivial⟩,?_⟩
  refine ⟨_,rfl,_,rfl,_,rfl,nb,rfl, .inl nH,by show 2<=sizeLine;decide,fun t nt=>?_⟩
  have st:=sT.trans (ai.upd (o:=HO.tup [.str (S [nb]), .str (S [bL nb])]) nt)
  refine ⟨t,_,rfl, .inr (aN.of ae),rfl,rfl,_,rfl,?_⟩
  refine eu (fun v=>?_) (fun v=>?_)
  ·refine ⟨_,rfl,o.o,_,rfl, .inr (aN.of (st _ _ (wK _ _ (Nb o dU).tp))),?_⟩
   exact nx _ _ (by simpa using eZ) ⟨st,zs++[(((de o.ps).length:Nat):Int)],by rw[List.map_append];rfl,by rw[List.length_append];show zs.length+1<=_;omega⟩
  ·exact nx _ _ (Nat.le_succ_of_le eZ) ⟨st,zs,rfl,by omega⟩
 ·rintro acc Mq D eZ ⟨BO,zs,rfl,WS⟩ hD
  rw[aU]at WS
  have sD:=BO.trans (ai.upd (o:=HO.lst (zs.map V.int)) hD)
  have RS:upd Mq D (HO.lst (zs.map V.int)) D=some (HO.lst (zs.map V.int)):=ae
  generalize upd Mq D (HO.lst (zs.map V.int))=WT at sD RS ⊢
  refine ⟨by show 1<=sizeLine;decide,fun p8 WU=>?_⟩
  have t8:=ai.upd (o:=HO.lst [V.int 1]) WU
  refine ⟨D,p8,_,_,rfl,rfl,t8 _ _ RS,ae,by rw[List.length_map];show zs.length+1<=sizeLine;omega,fun p9 RU=>?_⟩
  have t9:=t8.trans (ai.upd (o:=HO.lst (zs.map V.int++[V.int 1])) RU)
  have Jj:=ae (H:=upd WT p8 (HO.lst [V.int 1])) (a:=p9) (o:=HO.lst (zs.map V.int++[V.int 1]))
  have ez: ∃z0:Int,m9 (zs.map V.int++[V.int 1]) 0=some (V.int z0):=by
   cases zs with
   | nil=>exact ⟨1,rfl⟩
   | cons z zs=>exact ⟨z,aA (j:=0) rfl⟩
  obtain ⟨z0,Nf⟩:=ez
  have Es:=vg.same (sD.trans t9)
  have Et:=Nd.after (sD.trans t9)
  have bp9:p9≠b:=(vg.same (sD.trans t8)).ne RU
  generalize zs.map V.int++[V.int 1]=sz at Jj Es Et Nf ⊢
  generalize upd (upd WT p8 (HO.lst [V.int 1])) p9 (HO.lst sz)=Z6 at Jj Es Et ⊢
  clear t8 t9 sD BO hD RS WU RU vg Nd wK nh jC jd vh nI yB Ji Nb
  change i9 _ _ _ [some (.ref b),some (.str (S y)),some (.ref dr),some (.ref wt),some (.ref ot),some (.int fm),some (.int c),some (.ref p4),some (.str (S x)),some (.int many),some (.int i),some (.ref p9),none] Z6
  walk_at "rd"
  refine ⟨p9,_,_,_,rfl,rfl,aJ.of Jj,Nf,?_⟩
  walk_at "rd"
  refine ⟨p9,_,_,_,rfl,rfl,aJ.of Jj,Nf,?_⟩
  walk_at "rd"
  refine ⟨p9,_,_,_,rfl,rfl,aJ.of Jj,Nf,?_⟩
  walk_at "rd"
  refine ⟨p9,_,_,_,rfl,rfl,aJ.of Jj,Nf,?_⟩
  walk_at "rd"
  refine ⟨b,24,rfl,Es,by decide,by decide,fun r5 H15 D3 Jk Cf=>?_⟩
  refine ⟨by show 8<=sizeLine;decide,fun pa RV=>?_⟩
  have ta:=ai.upd (o:=HO.lst [V.int 0,V.int (0 - 1),V.int (z0 - 2),V.int (z0 - 1),V.int z0,V.int (z0+1),V.int (10 ^ 20),V.int (r5:Nat)]) RV
  have WV:pa≠b:=Jk.ne RV
  refine ⟨_,rfl,b,8,rfl,Jk.same ta,by decide,by decide,fun r6 O4 hr6 RW RX=>?_⟩
  obtain ⟨k,hk⟩:=u_ (zs:=[0,0 - 1,z0 - 2,z0 - 1,z0,z0+1,10 ^ 20,(r5:Nat)]) (r:=r6) (by show r6<8;omega)
  refine ⟨pa,_,_,_,rfl,rfl,aJ.of (RX _ _ ae WV),hk,?_⟩
  have RY:aI b H O4:=((Et.trans Cf).after ta).trans RX
  clear Et Cf ta RX Es Jk RV WV hk Jj
  refine ⟨_,rfl,_,rfl,by show 3<=sizeLine;decide,fun q1 n1=>?_⟩
  have u1:=ai.upd (o:=HO.tup [V.str (S iy),V.str (S x),V.int k]) n1
  have h1:upd O4 q1 (HO.tup [V.str (S iy),V.str (S x),V.int k]) q1=some (HO.tup [V.str (S iy),V.str (S x),V.int k]):=ae
  change kT _ _ _ (upd O4 q1 (HO.tup [V.str (S iy),V.str (S x),V.int k])) _
  generalize upd O4 q1 (HO.tup [V.str (S iy),V.str (S x),V.int k])=G1 at u1 h1 ⊢
  refine ⟨_,rfl,_,rfl,by show 3<=sizeLine;decide,fun q2 Z7=>?_⟩
  have u2:=ai.upd (o:=HO.tup [V.str (S mI),V.int c,V.int i]) Z7
  have h2:upd G1 q2 (HO.tup [V.str (S mI),V.int c,V.int i]) q2=some (HO.tup [V.str (S mI),V.int c,V.int i]):=ae
  change kT _ _ _ (upd G1 q2 (HO.tup [V.str (S mI),V.int c,V.int i])) _
  generalize upd G1 q2 (HO.tup [V.str (S mI),V.int c,V.int i])=G2 at u2 h2 ⊢
  refine ⟨_,rfl,_,rfl,_,rfl,_,rfl,by show 5<=sizeLine;decide,fun q3 n3=>?_⟩
  have u3:=ai.upd (o:=HO.tup [V.str (S AR),V.int c,V.int i,V.str (S x),V.int k]) n3
  have h3:upd G2 q3 (HO.tup [V.str (S AR),V.int c,V.int i,V.str (S x),V.int k]) q3=some (HO.tup [V.str (S AR),V.int c,V.int i,V.str (S x),V.int k]):=ae
  change kT _ _ _ (upd G2 q3 (HO.tup [V.str (S AR),V.int c,V.int i,V.str (S x),V.int k])) _
  generalize upd G2 q3 (HO.tup [V.str (S AR),V.int c,V.int i,V.str (S x),V.int k])=G3 at u3 h3 ⊢
  refine ⟨_,rfl,by show 2<=sizeLine;decide,fun q4 n4=>?_⟩
  have u4:=ai.upd (o:=HO.tup [V.str (S gN),V.int c]) n4
  have h4:upd G3 q4 (HO.tup [V.str (S gN),V.int c]) q4=some (HO.tup [V.str (S gN),V.int c]):=ae
  change zD _ (upd G3 q4 (HO.tup [V.str (S gN),V.int c])) _
  generalize upd G3 q4 (HO.tup [V.str (S gN),V.int c])=G4 at u4 h4 ⊢
  refine ⟨by show 4<=sizeLine;decide,fun q5 n5=>?_⟩
  have u5:=ai.upd (o:=HO.lst [V.ref q1,V.ref q2,V.ref q3,V.ref q4]) n5
  have O5:=RY.after ((((u1.trans u2).trans u3).trans u4).trans u5)
  have O6:=RW.same ((((u1.trans u2).trans u3).trans u4).trans u5)
  rcases (by omega:fm=0\/fm=1\/fm=2\/fm=3) with rfl | rfl | rfl | rfl
  ·exact ⟨_,rfl,q5,_,_,_,rfl,rfl,aJ.of ae,aA (j:=0) rfl,q q1 (.swap x k) _ (((u2.trans u3).trans (u4.trans u5)) _ _ h1) O6 O5⟩
  ·exact ⟨_,rfl,q5,_,_,_,rfl,rfl,aJ.of ae,aA (j:=1) rfl,q q2 (.out c i) _ ((u3.trans (u4.trans u5)) _ _ h2) O6 O5⟩
  ·exact ⟨_,rfl,q5,_,_,_,rfl,rfl,aJ.of ae,aA (j:=2) rfl,q q3 (.ins c i x k) _ ((u4.trans u5) _ _ h3) O6 O5⟩
  ·exact ⟨_,rfl,q5,_,_,_,rfl,rfl,aJ.of ae,aA (j:=3) rfl,q q4 (.turn c) _ (u5 _ _ h4) O6 O5⟩
theorem Jl:cD P w K mg base iK 6 Fv Ii ["_law_script"] (ku K):=by
 have qC:=DW (P:=P) (w:=w) (base:=base) T
 have Eu:=By (P:=P) (w:=w) (base:=base) T
 have vo:=tD (P:=P) (w:=w) (base:=base) T
 have B4:=yy (P:=P) (w:=w) (base:=base) T
 have Ew:=BH (P:=P) (w:=w) (base:=base) T
 have wQ:=BY (P:=P) (w:=w) (base:=base) T
 have qD:=B3 (P:=P) (w:=w) (base:=base) T
 have ba:=fK (P:=P) (w:=w) (base:=base) T
 have Jm:=Er (P:=P) (w:=w) (base:=base) T
 refine T.OB.fn.ok dj (fun vs H Q E h=>Dy h) (fun dS A outer s H vs Q E hr h=>?_)
 refine ⟨_,(ag (aB (i:=1) dj.nd rfl (Or.inl rfl) (ay qC (hr.mono (by decide)) rfl T.F9.mg T.F9.fn.kp T.F9.bd .nil aR (aa (pv 0) (aa ah af))))
   (ag (aB (i:=2) dj.nd rfl (Or.inl rfl) (ay Eu (hr.mono (by decide)) rfl T.Ij.mg T.Ij.fn.kp T.Ij.bd .nil aR (aa (pv 1) (aa ah (aa ah af)))))
   (ag (aB (i:=3) dj.nd rfl (Or.inl rfl) (ay vo (hr.mono (by decide)) rfl T.Im.mg T.Im.fn.kp T.Im.bd .nil aR (aa (ay qC (hr.mono (by decide)) rfl T.F9.mg T.F9.fn.kp T.F9.bd .nil aR (aa (pv 0) (aa ah af))) (aa (pv 2) (aa (ay B4 (hr.mono (by decide)) rfl T.Io.mg T.Io.fn.kp T.Io.bd .nil aR (aa (pv 1) (aa (pv 2) af))) af)))))
   (ag (zA (i:=4) (j:=5) rfl dj.nd rfl rfl (by decide) rfl rfl (aa (pv 3) (aa (bt af) af)) rfl)
   (ag (cn PassesOwn.never rfl (nN rfl T.z_range (aa ah (aa (au (nO rfl) rfl T.z_max boot_max (aa ah (aa (au (nP rfl) rfl T.z_min boot_min (aa ah (aa (au (ax K rfl) rfl T.z_len PySem.boot_len (aa (pv 0) af)) af))) af))) af))) (aD (i:=6) dj.nd rfl (Or.inl rfl)) (ag (aB (i:=7) dj.nd rfl (Or.inl rfl) (ay Ew (hr.mono (by decide)) rfl T.Iu.mg T.Iu.fn.kp T.Iu.bd .nil aR (aa (ay qC (hr.mono (by decide)) rfl T.F9.mg T.F9.fn.kp T.F9.bd .nil aR (aa (pv 0) (aa (pv 6) af))) (aa (pv 2) (aa (pv 4) af)))))
   (ag (aB (i:=8) dj.nd rfl (Or.inl rfl) (ay wQ (hr.mono (by decide)) rfl T.Cj.mg T.Cj.fn.kp T.Cj.bd .nil aR (aa (pv 2) (aa (pv 4) (aa (bt (aa (pv 7) af)) af)))))
   (ak (bH (cU (fW (au (j4 K rfl) rfl T.z_isinstance boot_isinstance (aa (pv 8) (aa (pJ (v:= .ty "list") rfl T.z_list boot_list rfl) af))))) (ag (bE (bB K rfl PySem.F.plainAttrs_list PySem.F.slot_list_append PySem.F.type_list_append dn (pv 5) (aa (pv 7) af)))
   (ak (aB (i:=4) dj.nd rfl (Or.inl rfl) (pv 8)))) aY)))))
   (ag (bH (aS (zV K rfl hr) (ay qD (hr.mono (by decide)) rfl T.yp.mg T.yp.fn.kp T.yp.bd .nil aR (aa (pv 2) (aa (pv 3) (aa (pv 5) af)))) (bA (aa (bR [116,111,108,100] (by decide+kernel)) (aa (pv 4) af))) (bq _)) (ak (aQ dm)) aY)
   (ag (cn PassesOwn.never rfl (nN rfl T.z_range (aa ah (aa ah af))) (aD (i:=6) dj.nd rfl (Or.inl rfl)) (ag (aB (i:=1) dj.nd rfl (Or.inl rfl) (ay qC (hr.mono (by decide)) rfl T.F9.mg T.F9.fn.kp T.F9.bd .nil aR (aa (pv 0) (aa (pv 6) af))))
   (ag (aB (i:=9) dj.nd rfl (Or.inl rfl) (bb (cZ K rfl) rfl T.z_list boot_list (aa (pv 5) af)))
   (ag (cn PassesOwn.never rfl (eh rfl T.z_range (aa (aE bz ah (ay ba (hr.mono (by decide)) rfl T.cx.mg T.cx.fn.kp T.cx.bd .nil aR (aa (pv 1) (aa ah af)))) af)) (aD (i:=10) dj.nd rfl (Or.inl rfl)) (ak (bE (bB K rfl PySem.F.plainAttrs_list PySem.F.slot_list_insert PySem.F.type_list_insert fj (pv 9) (aa (ay ba (hr.mono (by decide)) rfl T.cx.mg T.cx.fn.kp T.cx.bd .nil aR (aa (pv 1) (aa (aE bz (au (ax K rfl) rfl T.z_len PySem.boot_len (aa (pv 9) af)) ah) af))) (aa (ay Jm (hr.mono (by decide)) rfl T.Iv.mg T.Iv.fn.kp T.Iv.bd .nil aR (aa (pv 1) (aa (pv 2) (aa (pv 3) af)))) af))))))
   (ag (aB (i:=8) dj.nd rfl (Or.inl rfl) (ay wQ (hr.mono (by decide)) rfl T.Cj.mg T.Cj.fn.kp T.Cj.bd .nil aR (aa (pv 2) (aa (pv 3) (aa (pv 9) af)))))
   (ag (bH (cU (fW (au (j4 K rfl) rfl T.z_isinstance boot_isinstance (aa (pv 8) (aa (pJ (v:= .ty "list") rfl T.z_list boot_list rfl) af))))) (ak (aB (i:=8) dj.nd rfl (Or.inl rfl) (bA (aa (bR [116,111,108,100] (by decide+kernel)) (aa (pv 8) af))))) aY)
   (ak (bH (aS uw (au (mi K rfl hr) rfl T.z_repr boot_repr (aa (ay qD (hr.mono (by decide)) rfl T.yp.mg T.yp.fn.kp T.yp.bd .nil aR (aa (pv 2) (aa (pv 3) (aa (pv 9) af)))) af)) (au (mi K rfl hr) rfl T.z_repr boot_repr (aa (pv 8) af)) (bq _)) (ak (aQ dm)) aY))))))))
   (ak (aQ (vB (zU K rfl hr) (ay qD (hr.mono (by decide)) rfl T.yp.mg T.yp.fn.kp T.yp.bd .nil aR (aa (pv 2) (aa (pv 3) (aa (pv 5) af)))) (bA (aa (bR [116,111,108,100] (by decide+kernel)) (aa (pv 4) af))) (bq _))))))))))),?_⟩
 obtain ⟨a,ns,rfl,hS,hl,q⟩:=h
 have hs:(100000:Nat)<sizeLine:=by decide
 refine ⟨_,rfl,a,ns,0,rfl,hS,by decide,fun b H1 nb bx s1=>?_⟩
 refine ⟨_,rfl,b,1,4,rfl,bx,by decide,by decide,by decide,fun y H2 hy Mi hy2 RZ s2=>?_⟩
 have QT:y≠[]:=fun z=>by rw[z]at Mi;simp at Mi
 have tF:ai H H2:=aI.same nb s1 s2
 refine ⟨_,rfl,a,ns,1,rfl,tF.seq hS,by decide,fun b2 H3 R1 Ck s3=>?_⟩
 have ET:b2≠b:=fun z=>by obtain ⟨u,v,e⟩:=RZ;rw[<-z,R1]at e;cases e
 refine ⟨_,rfl,_,rfl,_,rfl,b,y,rfl,RZ.same s3,QT,by omega,fun wt ws H4 R3 wtb Ci WW R4 Z8 s4=>?_⟩
 have Ng:bD H4 b2:=by obtain ⟨u,v,e⟩:=Ck;exact ⟨u,v,s4 _ _ e ET⟩
 have R5:wt≠b2:=fun z=>by obtain ⟨u,v,e⟩:=Ck;rw[z,e]at R3;cases R3
 refine ⟨b2,y,wt,ws,rfl,Ng,hy,by omega,R5,Ci,WW,fun yM os H5 JU Iw Z9 s5=>?_⟩
 have ve:ai H H5:=fun x u e=>by
  have h3:=s3 _ _ (tF _ _ e)
  have h4:=s4 _ _ h3 (ao e nb)
  exact s5 _ _ h4 (ao (tF _ _ e) R1)
 have FI:Good y ws (os.map bw):=⟨WW,Iw.Yv⟩
 have R6: ∀w∈ws,w.length<=8+4:=fun w hw=>by have:=R4 w hw;omega
 clear bx RZ Ck Z8 Ng Z9 s1 s2 s3 s4 s5 tF Ci R3 nb R1
 walk_at "wk"
 intro dl OQ
 have Fy:=ai.upd (o:=HO.lst []) OQ
 have JT:upd H5 dl (HO.lst []) dl=some (HO.lst []):=ae
 generalize upd H5 dl (HO.lst [])=H7 at JT Fy ⊢
 refine ⟨_,_,rfl,?_⟩
 change i9 _ _ _ [some (.ref a),some (.ref b),some (.str (S y)),some (.ref yM),some (.ref yM),some (.ref dl),none,none,none,none,none] H7
 have IE:=ve.trans Fy
 refine ⟨_,rfl,a,_,rfl, .inl (IE.seq hS),?_⟩
 refine ⟨_,_,rfl,_,_,rfl,?_⟩
 obtain ⟨M,hM,hM1,hM2⟩:=yo ((ns.map V.int).length:Int) (by omega)
 rw[hM]
 refine ⟨2,(M:Int),rfl,⟨by decide,by decide,by omega,by omega⟩,?_⟩
 refine fh (fun i σ H'=> ∃(dr:Addr) (fN:List (List Nat)) (os':List Od) (ds:List Dd) (kv dv uv:Option V),σ=[some (.ref a),some (.ref b),some (.str (S y)),some (.ref yM),some (.ref dr),some (.ref dl),kv,dv,uv,none,none]/\e_ H' dr fN os'/\Good y fN (os'.map bw)/\
   H' dl=some (.lst (AX ds))/\(∀x∈ds,fI H' x.a x.e)/\ds.length<=i/\Path y ws (os.map bw) (ds.map Dd.e)/\mL y ws (os.map bw) (ds.map Dd.e)=(fN,os'.map bw)/\ai H5 H')
  ⟨yM,ws,os,[],none,none,none,rfl,JU.same Fy,FI,JT,fun _ h=>absurd h List.not_mem_nil,Nat.le_refl _,trivial,rfl,Fy⟩ ?_ ?_
 ·rintro i σ H8 hi ⟨dr,fN,os',ds,kv,dv,uv,rfl,wL,Jn,tK,B5,Nh,Ni,J3,s8⟩
  have hk:((2:Int)+(i:Int))=((2+i:Nat):Int):=by omega
  refine ⟨_,rfl,_,rfl,a,ns,2+i,by rw[<-hk];rfl,(ve.trans s8).seq hS,by omega,fun b3 H9 J4 WX s9=>?_⟩
  refine ⟨_,rfl,_,rfl,?_⟩
  by_cases M4:fN=[]
  ·subst M4
   refine .inr ⟨b3,y,dr,os',rfl,WX,hy,by omega,by omega,Jn,wL.same s9,fun da HA J5 sA=>?_⟩
   have Jo:ai H8 HA:=aI.same J4 s9 sA
   refine ⟨_,rfl,_,rfl,_,rfl,by show 1<=sizeLine;decide,fun pl IM=>?_⟩
   have sl:=ai.upd (o:=HO.lst [V.ref da]) IM
   refine ⟨y,dr,[],os',pl,[⟨da, .turn 0⟩],rfl,hy,by omega,Jn,wL.same (Jo.trans sl),ae,fun x hx=>by rw[List.mem_singleton.mp hx];exact sl _ _ J5,by show 1<=50;decide, .inr ⟨by show ¬((0:Int)<=0/\(0:Int)<0);omega,fun p HB hp sB=>?_⟩⟩
   have qE:=Jo.trans (sl.trans sB)
   refine ⟨_,rfl,_,rfl, .inl ⟨p,_,rfl,hp,?_⟩⟩
   refine ⟨_,rfl,a_ rfl ?_⟩
   exact ⟨dr,[],os',ds,_,_,_,rfl,wL.same qE,Jn,qE _ _ tK,fun x hx=>(B5 x hx).ts (aC.of qE),by omega,Ni,J3,s8.trans qE⟩
  ·refine .inl ⟨b3,y,dr,fN,os',rfl,WX,hy,by omega,by omega,M4,Jn,wL.same s9,fun da e HA J5 aX sA=>?_⟩
   have Jo:ai H8 HA:=aI.same J4 s9 sA
   refine ⟨_,rfl,_,rfl,_,rfl,by show 1<=sizeLine;decide,fun pl IM=>?_⟩
   have sl:=ai.upd (o:=HO.lst [V.ref da]) IM
   refine ⟨y,dr,fN,os',pl,[⟨da,sR e⟩],rfl,hy,by omega,Jn,wL.same (Jo.trans sl),ae,fun x hx=>by rw[List.mem_singleton.mp hx];exact (sZ J5).ts (aC.of sl),by show 1<=50;decide, .inl ⟨e,rfl,aX,fun Ex Jp HB g1 g2 g3 sB=>?_⟩⟩
   have WY:=sl.trans sB
   have qE:=Jo.trans WY
   have Jq:=qE _ _ tK
   have R7: ∀x∈ds,fI HB x.a x.e:=fun x hx=>(B5 x hx).ts (aC.of qE)
   have R8:=J5.ts (aC.of WY)
   have Z_:=s8.trans qE
   obtain ⟨⟨wt2,ot2,k1,k2,k3⟩,_⟩:=id g1
   refine ⟨_,rfl,_,rfl, .inr (.inl ⟨Ex,_,rfl,k1,?_⟩)⟩
   refine ⟨_,rfl,aT rfl ?_⟩
   refine ⟨_,rfl, .inl ⟨rfl,_,aJ.of Jq⟩,_,rfl,dl,_,_,rfl,rfl,Jq,by rw[DD];omega,?_⟩
   rw[show AX ds++[V.ref da]=AX (ds++[⟨da,e⟩]) from Bi ds ⟨da,e⟩]
   have R9:aC HB (upd HB dl (HO.lst (AX (ds++[⟨da,e⟩])))):=aC.ja Jq
   refine ⟨_,rfl,Ex,_,Jp,ds++[⟨da,e⟩],_,_,_,rfl,g1.ts R9,g3,ae,fun x hx=>?_,by rw[List.length_append];show ds.length+1<=_;omega,?_,?_,fJ Z_ OQ⟩
   ·rcases List.mem_append.mp hx with g | g
    ·exact (R7 x g).ts R9
    ·rw[List.mem_singleton.mp g];exact R8.ts R9
   ·rw[List.map_append]
    exact o8 Ni (by rw[J3];exact aX)
   ·rw[List.map_append]
    show mL y ws (os.map bw) (ds.map Dd.e++[e])=_
    rw[sN,J3,g2]
 ·rintro σ H8 ⟨dr,fN,os',ds,kv,dv,uv,rfl,wL,Jn,tK,B5,Nh,Ni,J3,s8⟩
  have Ey:=JU.same s8
  have O3:=ve.trans s8
  have R_:ds.length<=12:=by omega
  clear JT Fy IE OQ
  have FF:=qy (u9 hy (by omega) wL Jn)
  rw[<-Ig]at tK
  have O7:=DR B5
  have Jr: ∀(P:List (List Nat)->cy->Prop) (R:Nat->Prop),P fN (os'.map bw)->Ends y P R 0 ws (os.map bw) ((nG ds).map Rr.r):=fun P R h=>by
   rw[Ih]
   exact pf Ni (by rw[J3];exact h)
  have Cm:(nG ds).length<=12:=by unfold nG;rw[List.length_map];exact R_
  generalize nG ds=rs at tK O7 Jr Cm
  clear B5 Nh Ni J3
  refine ⟨_,rfl,_,rfl,_,rfl,y,yM,ws,os,dl,rs,rfl,hy,by omega,FI,Ey,tK,O7,by omega,Jr _ _ fun t Ex Jp H9 ht g1 g2 g3 s9=>?_⟩
  refine ⟨_,rfl,by show 2<=sizeLine;decide,fun p np=>?_⟩
  have sp:=ai.upd (o:=HO.tup [V.str (S iF),V.ref dr]) np
  have r1:lF K (upd H9 p (HO.tup [V.str (S iF),V.ref dr])) (.ref t) (j_ (zh fN (os'.map bw))):=by rw[<-g2];exact iR (sp _ _ ht) (g1.same sp)
  refine ⟨_,_,r1,iR ae (wL.same (s9.trans sp)),⟨FF.ly,FF.ly⟩,Nat.le_trans FF.dp (by decide),_,rfl,a_ (by rw[eqv_refl _ (ph (wD _ _))];rfl) ?_⟩
  have Jo:=s9.trans sp
  clear r1 sp s9 g1 g2 g3 ht
  refine ⟨14,18,rfl,⟨by decide,by decide,by decide,by decide⟩,?_⟩
  refine fh (fun i σ H'=> ∃(bv kv dv uv xv tv:Option V),σ=[some (.ref a),bv,some (.str (S y)),some (.ref yM),some (.ref dr),some (.ref dl),kv,dv,uv,xv,tv]/\ai H8 H')
   ⟨_,_,_,_,_,_,rfl,Jo⟩ ?_ ?_
  ·rintro i σ HB hi ⟨bv,kv,dv,uv,xv,tv,rfl,qE⟩
   have hi4:i<4:=hi
   have hk:((14:Int)+(i:Int))=((14+i:Nat):Int):=by omega
   refine ⟨_,rfl,_,rfl,a,ns,14+i,by rw[<-hk];rfl,(O3.trans qE).seq hS,by omega,fun b3 HC J4 Ck sC=>?_⟩
   refine ⟨_,rfl,dl,_,rfl, .inl (aJ.of (sC _ _ (qE _ _ tK))),fun dp O8=>?_⟩
   have Sa:=ai.upd (o:=HO.lst (kJ rs)) O8
   have Sb:upd HC dp (HO.lst (kJ rs)) dp=some (HO.lst (kJ rs)):=ae
   have nu:dp≠b3:=Ck.ne O8
   have Sd:=Ck.same Sa
   have Se:=sC.trans Sa
   have Sf:HB dp=none:=ai.free sC O8
   generalize upd HC dp (HO.lst (kJ rs))=HD at Sb Sd Se ⊢
   clear Sa O8 sC Ck
   refine ⟨_,rfl,b3,2,rfl,Sd,by decide,by decide,fun r HE hr WZ sE=>?_⟩
   walk_at "rd"
   have Sg:ai HB HE:=aI.same J4 Se sE
   have Nj:=sE _ _ Sb nu
   refine fh (fun j σ H'=> ∃(tS:List Rr) (Sh:Option V),σ=[some (.ref a),some (.ref b3),some (.str (S y)),some (.ref yM),some (.ref dr),some (.ref dl),some (.int (14+(i:Int))),dv,uv,some (.ref dp),Sh]/\H' dp=some (.lst (kJ tS))/\tS.length=rs.length+j/\(∀x∈tS,wF H' x.a x.r)/\bD H' b3/\ai HB H')
    ⟨rs,_,rfl,Nj,rfl,fun x hx=>(O7 x hx).ts (aC.of (qE.trans Sg)),WZ,Sg⟩ ?_ ?_
   ·rintro j σ HF hj ⟨tS,Sh,rfl,tL,hlF,Js,O9,sF⟩
    have VS:j<2:=by omega
    refine ⟨_,rfl, .inl ⟨rfl,_,aJ.of tL⟩,_,rfl,_,rfl,dp,_,rfl, .inl (aJ.of tL),_,_,rfl,rfl,b3,_,rfl,O9,by rw[fT];omega,by rw[fT];omega,fun p2 HG kW W0 sG=>?_⟩
    rw[fT]at kW
    have W3:ai HB HG:=aI.same J4 sF sG
    have Si:=sG _ _ tL nu
    refine ⟨_,rfl,_,rfl,_,rfl,b3,y,yM,ws,os,rfl,W0,hy,by omega,by omega,FI,Ey.same (qE.trans W3),fun da rr HH J5 bxH sH=>?_⟩
    have sBH:ai HB HH:=aI.same J4 W3 sH
    have Nk:=sH _ _ Si nu
    have W4:aC HF HH:=(aC.box O9 sG).trans (aC.box W0 sH)
    refine ⟨dp,_,p2,V.ref da,rfl,rfl,Nk,by rw[fT];omega,by rw[fT];omega,?_⟩
    rw[DQ tS ⟨da,rr⟩ p2]
    have Sj:aC HH (upd HH dp (HO.lst (kJ (tS.take p2++⟨da,rr⟩::tS.drop p2)))):=aC.ja Nk
    refine ⟨tS.take p2++⟨da,rr⟩::tS.drop p2,_,rfl,ae,by rw[List.length_append,List.length_cons,List.length_take,List.length_drop];omega,fun x hx=>?_,bxH.dY nu,fJ sBH Sf⟩
    rcases List.mem_append.mp hx with g | g
    ·exact (Js x (List.mem_of_mem_take g)).ts (W4.trans Sj)
    rcases List.mem_cons.mp g with g | g
    ·rw[g];exact J5.ts Sj
    ·exact (Js x (List.mem_of_mem_drop g)).ts (W4.trans Sj)
   ·rintro σ HF ⟨tS,Sh,rfl,tL,hlF,Js,O9,sF⟩
    have aaa:tS.length<=14:=by omega
    have Sk:=qE.trans sF
    have Ez:=Ey.same Sk
    clear O9 WZ Sd sE Sb Nj Sg Se
    rcases wJ (y:=y) (rs:=tS.map Rr.r) (n:=8+4) (k:=0) (ws:=ws) (L:=os.map bw) R6 (by rw[List.length_map];omega) with ⟨O_,L2,hE⟩ | ⟨jj,hjj,hE⟩
    ·refine ⟨_,rfl,_,rfl,_,rfl,y,yM,ws,os,dp,tS,rfl,hy,by omega,FI,Ez,tL,Js,by omega,hE _ _ fun Ex Jp HG g1 g2 g3 sG=>?_⟩
     obtain ⟨⟨wt2,ot2,k1,k2,k3⟩,_⟩:=id g1
     refine ⟨_,rfl,_,rfl, .inr (.inl ⟨Ex,_,rfl,k1,?_⟩)⟩
     refine ⟨_,rfl,aT rfl ?_⟩
     refine ⟨_,rfl,by show 2<=sizeLine;decide,fun p3 Cq=>?_⟩
     have s3:=ai.upd (o:=HO.tup [V.str (S iF),V.ref Ex]) Cq
     have Pa:=sG.trans s3
     have Fw:upd HG p3 (HO.tup [V.str (S iF),V.ref Ex]) p3=some (HO.tup [V.str (S iF),V.ref Ex]):=ae
     have OS:=g1.same s3
     refine ⟨_,rfl,_,rfl,_,rfl,y,yM,ws,os,dp,tS,rfl,hy,by omega,FI,Ez.same Pa,Pa _ _ tL,fun x hx=>(Js x hx).ts (aC.of Pa),by omega,hE _ _ fun t dr4 Sl HI ht j1 j2 j3 sI=>?_⟩
     have e4:Sl.map bw=Jp.map bw:=j2.trans g2.symm
     refine ⟨_,_,rfl,iR ht j1,qy (u9 hy (by omega) j1 j3),?_⟩
     refine ⟨_,rfl,_,_,rfl,iR (sI _ _ Fw) (OS.same sI),qy (u9 hy (by omega) (OS.same sI) g3),?_⟩
     have eR:RT (j_ (zh O_ (Sl.map bw)))=RT (j_ (zh O_ (Jp.map bw))):=by rw[e4]
     generalize RT (j_ (zh O_ (Sl.map bw)))=X1 at eR ⊢
     generalize RT (j_ (zh O_ (Jp.map bw)))=X2 at eR ⊢
     refine ⟨X1,X2,rfl,rfl,_,rfl,a_ (by rw[eR];simp) ?_⟩
     exact ⟨_,_,_,_,_,_,rfl,Sk.trans (Pa.trans sI)⟩
    ·rw[List.length_map]at hjj
     refine ⟨_,rfl,_,rfl,_,rfl,y,yM,ws,os,dp,tS,rfl,hy,by omega,FI,Ez,tL,Js,by omega,hE _ _ fun p3 HG Fw sG=>?_⟩
     refine ⟨_,rfl,_,rfl, .inl ⟨p3,_,rfl,Fw,?_⟩⟩
     refine ⟨_,rfl,a_ rfl ?_⟩
     refine ⟨_,rfl,_,rfl,_,rfl,y,yM,ws,os,dp,tS,rfl,hy,by omega,FI,Ez.same sG,sG _ _ tL,fun x hx=>(Js x hx).ts (aC.of sG),by omega,hE _ _ fun t HI ht sI=>?_⟩
     refine ⟨_,_,rfl,Bo ht,Bn (by omega),?_⟩
     refine ⟨_,rfl,_,_,rfl,Bo (sI _ _ Fw),Bn (by omega),?_⟩
     generalize RT (Ie jj)=X1
     refine ⟨X1,X1,rfl,rfl,_,rfl,a_ (by simp) ?_⟩
     exact ⟨_,_,_,_,_,_,rfl,Sk.trans (sG.trans sI)⟩
  ·rintro σ HB ⟨bv,kv,dv,uv,xv,tv,rfl,qE⟩
   refine ⟨_,rfl,_,rfl,_,rfl,y,yM,ws,os,dl,rs,rfl,hy,by omega,FI,Ey.same qE,qE _ _ tK,fun x hx=>(O7 x hx).ts (aC.of qE),by omega,Jr _ _ fun t Ex Jp H9 ht g1 g2 g3 s9=>?_⟩
   refine ⟨_,rfl,by show 2<=sizeLine;decide,fun p np=>?_⟩
   have sp:=ai.upd (o:=HO.tup [V.str (S iF),V.ref dr]) np
   have r1:lF K (upd H9 p (HO.tup [V.str (S iF),V.ref dr])) (.ref t) (j_ (zh fN (os'.map bw))):=by rw[<-g2];exact iR (sp _ _ ht) (g1.same sp)
   refine ⟨_,_,r1,iR ae (wL.same (qE.trans (s9.trans sp))),⟨FF.ly,FF.ly⟩,Nat.le_trans FF.dp (by decide),?_⟩
   rw[eqv_refl _ (ph (wD _ _))]
   exact q _
end
theorem eJ {M:List Value->Prop} (h:M []): ∀us:List Value,us.length=0->M us
 | [],_=>h
theorem bp {M:List Value->Prop} {n:Nat} (h: ∀(a:Value) (us:List Value),us.length=n->M (a::us)): ∀us:List Value,us.length=n+1->M us
 | a::us,e=>h a us (Nat.succ.inj e)
theorem all_mk {l:PySem.W.OpenLaw} {w:World} {K:PySem.W.Frag} {h:Heap} {mg:Str->Option Value} {fa f0 f1 f2 f3 f4 f5 f6 f7 f8 f9 Fe Ff Fg Fh Fi Fj Fl Fm Fn Fo Fp Fq Fs Ft Fu Fv aw aV fe b_ dM cP ff dN dP dQ cC cQ cR fg dc:Addr} (X:K.In h) (G:h.Ns mainGlobals mg) (hfa:mg "law"=some (.ref fa))
  {od0 an0 od1 an1 od2 an2 od3 an3 od4 an4 od5 an5 od6 an6 od7 an7 od8 an8 od9 an9 Sm Sn So Sr Ss Su Sv Sw Sx Sy Sz SA SD SE SG SH SI SJ SK SM SN SO SQ SR SU SV SW S0 S3 S4 S5 S6 yN yO:Option Addr} {sl0 sl1 uf sl3 sl4 sl5 sl6 sl7 sl8 sl9 S7 S8 S9 S_ Ta Tc Td Te Tf Tg Th Ti Tj Tn To Tp yP:Array (Option Value)} {oc0 kV0 dc0 pm0 W5 ct0 oc1 kV1 dc1 pm1 W6 ct1 oc2 kV2 dc2 pm2 W7 ct2 oc3 kV3 dc3 pm3 W8 ct3 oc4 kV4 dc4 pm4 W9 ct4 oc5 kV5 dc5 pm5 W_ ct5 oc6 kV6 dc6 pm6 Xa ct6 oc7 kV7 dc7 pm7 Xb ct7 oc8 kV8 dc8 pm8 Xc ct8 oc9 kV9 dc9 pm9 Xd ct9 Tq Tr Ts Tt Nl Tu Tv Tw Tx Tz Nm TB TC TF TH TJ Nn TK TL TM TN TQ Np TR TU TV TX TY Nq TZ T3 T4 T5 T6 Nr T7 T8 T9 T_ Ua Nt Ub Uc Ud Ue Ug Nu Uh Ui Uj Uk Ul Nv Um Uo Up Uq Ur Nw Us Ut Uu Uv Uw Ny Ux Uy Uz UA UB Nz UC UD UE UG UH NA UI UJ UK UL UM NB UN UO UP UQ UR NC US UT UU UW UX ND UY yQ yR yS yT pG yU:Value}
  (a0:PySem.W.nsIn K mainGlobals "contrary"=some (some (.ref f0)))
  (l0:K.lookup f0=some ⟨oc0,od0, .func (PySem.W.fnOf "contrary" "contrary" (bf eE) (aZ eE) (ar eE) .none kV0 dc0 pm0 an0 W5 ct0),sl0⟩)
  (c0:PySem.W.codeIn K W5 "contrary"=true)
  (k0:PySem.W.keepIn K (.ref f0)=true)
  (a1:PySem.W.nsIn K mainGlobals "bands"=some (some (.ref f1)))
  (l1:K.lookup f1=some ⟨oc1,od1, .func (PySem.W.fnOf "bands" "bands" (bf iS) (aZ iS) (ar iS) .none kV1 dc1 pm1 an1 W6 ct1),sl1⟩)
  (c1:PySem.W.codeIn K W6 "bands"=true)
  (k1:PySem.W.keepIn K (.ref f1)=true)
  (a2:PySem.W.nsIn K mainGlobals "renumber"=some (some (.ref f2)))
  (l2:K.lookup f2=some ⟨oc2,od2, .func (PySem.W.fnOf "renumber" "renumber" (bf eF) (aZ eF) (ar eF) .none kV2 dc2 pm2 an2 W7 ct2),uf⟩)
  (c2:PySem.W.codeIn K W7 "renumber"=true)
  (k2:PySem.W.keepIn K (.ref f2)=true)
  (a3:PySem.W.nsIn K mainGlobals "do_swap"=some (some (.ref f3)))
  (l3:K.lookup f3=some ⟨oc3,od3, .func (PySem.W.fnOf "do_swap" "do_swap" (bf fk) (aZ fk) (ar fk) .none kV3 dc3 pm3 an3 W8 ct3),sl3⟩)
  (c3:PySem.W.codeIn K W8 "do_swap"=true)
  (k3:PySem.W.keepIn K (.ref f3)=true)
  (a4:PySem.W.nsIn K mainGlobals "do_out"=some (some (.ref f4)))
  (l4:K.lookup f4=some ⟨oc4,od4, .func (PySem.W.fnOf "do_out" "do_out" (bf gr) (aZ gr) (ar gr) .none kV4 dc4 pm4 an4 W9 ct4),sl4⟩)
  (c4:PySem.W.codeIn K W9 "do_out"=true)
  (k4:PySem.W.keepIn K (.ref f4)=true)
  (a5:PySem.W.nsIn K mainGlobals "do_in"=some (some (.ref f5)))
  (l5:K.lookup f5=some ⟨oc5,od5, .func (PySem.W.fnOf "do_in" "do_in" (bf iT) (aZ iT) (ar iT) .none kV5 dc5 pm5 an5 W_ ct5),sl5⟩)
  (c5:PySem.W.codeIn K W_ "do_in"=true)
  (k5:PySem.W.keepIn K (.ref f5)=true)
  (a6:PySem.W.nsIn K mainGlobals "do_turn"=some (some (.ref f6)))
  (l6:K.lookup f6=some ⟨oc6,od6, .func (PySem.W.fnOf "do_turn" "do_turn" (bf fo) (aZ fo) (ar fo) .none kV6 dc6 pm6 an6 Xa ct6),sl6⟩)
  (c6:PySem.W.codeIn K Xa "do_turn"=true)
  (k6:PySem.W.keepIn K (.ref f6)=true)
  (a7:PySem.W.nsIn K mainGlobals "do_deed"=some (some (.ref f7)))
  (l7:K.lookup f7=some ⟨oc7,od7, .func (PySem.W.fnOf "do_deed" "do_deed" (bf fq) (aZ fq) (ar fq) .none kV7 dc7 pm7 an7 Xb ct7),sl7⟩)
  (c7:PySem.W.codeIn K Xb "do_deed"=true)
  (k7:PySem.W.keepIn K (.ref f7)=true)
  (a8:PySem.W.nsIn K mainGlobals "done"=some (some (.ref f8)))
  (l8:K.lookup f8=some ⟨oc8,od8, .func (PySem.W.fnOf "done" "done" (bf kK) (aZ kK) (ar kK) .none kV8 dc8 pm8 an8 Xc ct8),sl8⟩)
  (c8:PySem.W.codeIn K Xc "done"=true)
  (k8:PySem.W.keepIn K (.ref f8)=true)
  (a9:PySem.W.nsIn K mainGlobals "_law_box"=some (some (.ref f9)))
  (l9:K.lookup f9=some ⟨oc9,od9, .func (PySem.W.fnOf "_law_box" "_law_box" (bf kL) (aZ kL) (ar kL) .none kV9 dc9 pm9 an9 Xd ct9),sl9⟩)
  (c9:PySem.W.codeIn K Xd "_law_box"=true)
  (k9:PySem.W.keepIn K (.ref f9)=true)
  (a10:PySem.W.nsIn K mainGlobals "_law_take"=some (some (.ref Fe)))
  (l10:K.lookup Fe=some ⟨Tq,Sm, .func (PySem.W.fnOf "_law_take" "_law_take" (bf iU) (aZ iU) (ar iU) .none Tr Ts Tt Sn Nl Tu),S7⟩)
  (c10:PySem.W.codeIn K Nl "_law_take"=true)
  (k10:PySem.W.keepIn K (.ref Fe)=true)
  (a11:PySem.W.nsIn K mainGlobals "_law_other"=some (some (.ref Ff)))
  (l11:K.lookup Ff=some ⟨Tv,So, .func (PySem.W.fnOf "_law_other" "_law_other" (bf gs) (aZ gs) (ar gs) .none Tw Tx Tz Sr Nm TB),S8⟩)
  (c11:PySem.W.codeIn K Nm "_law_other"=true)
  (k11:PySem.W.keepIn K (.ref Ff)=true)
  (a12:PySem.W.nsIn K mainGlobals "_law_yard"=some (some (.ref Fg)))
  (l12:K.lookup Fg=some ⟨TC,Ss, .func (PySem.W.fnOf "_law_yard" "_law_yard" (bf iV) (aZ iV) (ar iV) .none TF TH TJ Su Nn TK),S9⟩)
  (c12:PySem.W.codeIn K Nn "_law_yard"=true)
  (k12:PySem.W.keepIn K (.ref Fg)=true)
  (a13:PySem.W.nsIn K mainGlobals "_law_word"=some (some (.ref Fh)))
  (l13:K.lookup Fh=some ⟨TL,Sv, .func (PySem.W.fnOf "_law_word" "_law_word" (bf iW) (aZ iW) (ar iW) .none TM TN TQ Sw Np TR),S_⟩)
  (c13:PySem.W.codeIn K Np "_law_word"=true)
  (k13:PySem.W.keepIn K (.ref Fh)=true)
  (a14:PySem.W.nsIn K mainGlobals "_law_order"=some (some (.ref Fi)))
  (l14:K.lookup Fi=some ⟨TU,Sx, .func (PySem.W.fnOf "_law_order" "_law_order" (bf gu) (aZ gu) (ar gu) .none TV TX TY Sy Nq TZ),Ta⟩)
  (c14:PySem.W.codeIn K Nq "_law_order"=true)
  (k14:PySem.W.keepIn K (.ref Fi)=true)
  (a15:PySem.W.nsIn K mainGlobals "_law_bands"=some (some (.ref Fj)))
  (l15:K.lookup Fj=some ⟨T3,Sz, .func (PySem.W.fnOf "_law_bands" "_law_bands" (bf gv) (aZ gv) (ar gv) .none T4 T5 T6 SA Nr T7),Tc⟩)
  (c15:PySem.W.codeIn K Nr "_law_bands"=true)
  (k15:PySem.W.keepIn K (.ref Fj)=true)
  (a16:PySem.W.nsIn K mainGlobals "_law_drawing"=some (some (.ref Fl)))
  (l16:K.lookup Fl=some ⟨T8,SD, .func (PySem.W.fnOf "_law_drawing" "_law_drawing" (bf eG) (aZ eG) (ar eG) .none T9 T_ Ua SE Nt Ub),Td⟩)
  (c16:PySem.W.codeIn K Nt "_law_drawing"=true)
  (k16:PySem.W.keepIn K (.ref Fl)=true)
  (a17:PySem.W.nsIn K mainGlobals "_law_words"=some (some (.ref Fm)))
  (l17:K.lookup Fm=some ⟨Uc,SG, .func (PySem.W.fnOf "_law_words" "_law_words" (bf gz) (aZ gz) (ar gz) .none Ud Ue Ug SH Nu Uh),Te⟩)
  (c17:PySem.W.codeIn K Nu "_law_words"=true)
  (k17:PySem.W.keepIn K (.ref Fm)=true)
  (a18:PySem.W.nsIn K mainGlobals "_law_opened"=some (some (.ref Fn)))
  (l18:K.lookup Fn=some ⟨Ui,SI, .func (PySem.W.fnOf "_law_opened" "_law_opened" (bf ft) (aZ ft) (ar ft) .none Uj Uk Ul SJ Nv Um),Tf⟩)
  (c18:PySem.W.codeIn K Nv "_law_opened"=true)
  (k18:PySem.W.keepIn K (.ref Fn)=true)
  (a19:PySem.W.nsIn K mainGlobals "_law_shut"=some (some (.ref Fo)))
  (l19:K.lookup Fo=some ⟨Uo,SK, .func (PySem.W.fnOf "_law_shut" "_law_shut" (bf iX) (aZ iX) (ar iX) .none Up Uq Ur SM Nw Us),Tg⟩)
  (c19:PySem.W.codeIn K Nw "_law_shut"=true)
  (k19:PySem.W.keepIn K (.ref Fo)=true)
  (a20:PySem.W.nsIn K mainGlobals "_law_does"=some (some (.ref Fp)))
  (l20:K.lookup Fp=some ⟨Ut,SN, .func (PySem.W.fnOf "_law_does" "_law_does" (bf iY) (aZ iY) (ar iY) .none Uu Uv Uw SO Ny Ux),Th⟩)
  (c20:PySem.W.codeIn K Ny "_law_does"=true)
  (k20:PySem.W.keepIn K (.ref Fp)=true)
  (a21:PySem.W.nsIn K mainGlobals "_law_deed"=some (some (.ref Fq)))
  (l21:K.lookup Fq=some ⟨Uy,SQ, .func (PySem.W.fnOf "_law_deed" "_law_deed" (bf iZ) (aZ iZ) (ar iZ) .none Uz UA UB SR Nz UC),Ti⟩)
  (c21:PySem.W.codeIn K Nz "_law_deed"=true)
  (k21:PySem.W.keepIn K (.ref Fq)=true)
  (a22:PySem.W.nsIn K mainGlobals "_law_odd"=some (some (.ref Fs)))
  (l22:K.lookup Fs=some ⟨UD,SU, .func (PySem.W.fnOf "_law_odd" "_law_odd" (bf kM) (aZ kM) (ar kM) .none UE UG UH SV NA UI),Tj⟩)
  (c22:PySem.W.codeIn K NA "_law_odd"=true)
  (k22:PySem.W.keepIn K (.ref Fs)=true)
  (a23:PySem.W.nsIn K mainGlobals "_law_gone"=some (some (.ref Ft)))
  (l23:K.lookup Ft=some ⟨UJ,SW, .func (PySem.W.fnOf "_law_gone" "_law_gone" (bf i0) (aZ i0) (ar i0) .none UK UL UM S0 NB UN),Tn⟩)
  (c23:PySem.W.codeIn K NB "_law_gone"=true)
  (k23:PySem.W.keepIn K (.ref Ft)=true)
  (a24:PySem.W.nsIn K mainGlobals "_law_told"=some (some (.ref Fu)))
  (l24:K.lookup Fu=some ⟨UO,S3, .func (PySem.W.fnOf "_law_told" "_law_told" (bf i3) (aZ i3) (ar i3) .none UP UQ UR S4 NC US),To⟩)
  (c24:PySem.W.codeIn K NC "_law_told"=true)
  (k24:PySem.W.keepIn K (.ref Fu)=true)
  (a25:PySem.W.nsIn K mainGlobals "law"=some (some (.ref Fv)))
  (l25:K.lookup Fv=some ⟨UT,S5, .func (PySem.W.fnOf "law" "law" (bf pj) (aZ pj) (ar pj) .none UU UW UX S6 ND UY),Tp⟩)
  (c25:PySem.W.codeIn K ND "law"=true)
  (k25:PySem.W.keepIn K (.ref Fv)=true)
  (q_NoDeed:PySem.W.nsIn K mainGlobals "NoDeed"=some (some (.ref aw)))
  (q_MeetError:PySem.W.nsIn K mainGlobals "MeetError"=some (some (.ref aV)))
  (q_NoCut:PySem.W.nsIn K mainGlobals "NoCut"=some (some (.ref fe)))
  (q_NoDrawing:PySem.W.nsIn K mainGlobals "NoDrawing"=some (some (.ref b_)))
  (q_NoName:PySem.W.nsIn K mainGlobals "NoName"=some (some (.ref dM)))
  (q_NoPaper:PySem.W.nsIn K mainGlobals "NoPaper"=some (some (.ref cP)))
  (q_NoRow:PySem.W.nsIn K mainGlobals "NoRow"=some (some (.ref ff)))
  (q_NoText:PySem.W.nsIn K mainGlobals "NoText"=some (some (.ref dN)))
  (q_NoWord:PySem.W.nsIn K mainGlobals "NoWord"=some (some (.ref dP)))
  (q_NoYard:PySem.W.nsIn K mainGlobals "NoYard"=some (some (.ref dQ)))
  (q_NotApart:PySem.W.nsIn K mainGlobals "NotApart"=some (some (.ref cC)))
  (q_NotLone:PySem.W.nsIn K mainGlobals "NotLone"=some (some (.ref cQ)))
  (q_TooLong:PySem.W.nsIn K mainGlobals "TooLong"=some (some (.ref cR)))
  (q_Twice:PySem.W.nsIn K mainGlobals "Twice"=some (some (.ref fg)))
  (xis_NoDeed:Lo K aw=true)
  (xga_NoDeed:PySem.W.findIn K (.ref aw) "__getattribute__"=some (some (.builtin "BaseException.__getattribute__")))
  (xgh_NoDeed:PySem.W.findIn K (.ref aw) "__getattr__"=some none)
  (xsa_NoDeed:PySem.W.findIn K (.ref aw) "__setattr__"=some (some (.builtin "object.__setattr__")))
  (xcl_NoDeed:PySem.W.findIn K (.ref aw) "__class__"=some (some (.builtin "object.__class__")))
  (xcg_NoDeed:PySem.W.specialIn K (.builtin "object.__class__") "__get__"=some (some (.builtin "getset_descriptor.__get__")))
  (xct_NoDeed:PySem.W.takesIn K (.builtin "object.__class__")=some true)
  (xob_NoDeed:PySem.W.mroIn K aw (.type "object")=some true)
  (xkp_NoDeed:PySem.W.keepIn K (.ref aw)=true)
  (r_NoDeed:PySem.W.mroIn K aw (.ref aV)=some true)
  (xis_MeetError:Lo K aV=true)
  (xga_MeetError:PySem.W.findIn K (.ref aV) "__getattribute__"=some (some (.builtin "BaseException.__getattribute__")))
  (xgh_MeetError:PySem.W.findIn K (.ref aV) "__getattr__"=some none)
  (xsa_MeetError:PySem.W.findIn K (.ref aV) "__setattr__"=some (some (.builtin "object.__setattr__")))
  (xcl_MeetError:PySem.W.findIn K (.ref aV) "__class__"=some (some (.builtin "object.__class__")))
  (xcg_MeetError:PySem.W.specialIn K (.builtin "object.__class__") "__get__"=some (some (.builtin "getset_descriptor.__get__")))
  (xct_MeetError:PySem.W.takesIn K (.builtin "object.__class__")=some true)
  (xob_MeetError:PySem.W.mroIn K aV (.type "object")=some true)
  (xkp_MeetError:PySem.W.keepIn K (.ref aV)=true)
  (qi_NoDeed:PySem.W.findIn K (.ref aw) "__init__"=some (some (.ref dc)))
  (fi_NoDeed:PySem.W.isFn K (.ref dc)=true)
  (li_NoDeed:K.lookup dc=some ⟨yQ,yN, .func (PySem.W.fnOf "__init__" "NoDeed.__init__" (bf eI) (aZ eI) (ar eI) .none yR yS yT yO pG yU),yP⟩)
  (ci_NoDeed:PySem.W.codeIn K pG "NoDeed.__init__"=true)
  (ki_NoDeed:PySem.W.keepIn K (.ref dc)=true)
  (n_NoDeed_at:PySem.W.findIn K (.ref aw) "at"=some none)
  (xbr:PySem.W.readsIn K aV (.type "type")=true)
  (xbg:PySem.W.specialIn K (.ref aV) "__getattribute__"=some (some (.builtin "type.__getattribute__")))
  (xbf:PySem.W.findCls K (.ref aV) (.type "type") "__init__"=some (.val (.builtin "ValueError.__init__")))
  (k_NoDeed_NoCut:PySem.W.kitOne K (.ref aw) (.ref fe)=some false)
  (k_NoDeed_NoDrawing:PySem.W.kitOne K (.ref aw) (.ref b_)=some false)
  (k_NoDeed_NoName:PySem.W.kitOne K (.ref aw) (.ref dM)=some false)
  (k_NoDeed_NoPaper:PySem.W.kitOne K (.ref aw) (.ref cP)=some false)
  (k_NoDeed_NoRow:PySem.W.kitOne K (.ref aw) (.ref ff)=some false)
  (k_NoDeed_NoText:PySem.W.kitOne K (.ref aw) (.ref dN)=some false)
  (k_NoDeed_NoWord:PySem.W.kitOne K (.ref aw) (.ref dP)=some false)
  (k_NoDeed_NoYard:PySem.W.kitOne K (.ref aw) (.ref dQ)=some false)
  (k_NoDeed_NotApart:PySem.W.kitOne K (.ref aw) (.ref cC)=some false)
  (k_NoDeed_NotLone:PySem.W.kitOne K (.ref aw) (.ref cQ)=some false)
  (k_NoDeed_TooLong:PySem.W.kitOne K (.ref aw) (.ref cR)=some false)
  (k_NoDeed_Twice:PySem.W.kitOne K (.ref aw) (.ref fg)=some false)
  (k_NoDeed_NoDeed:PySem.W.kitOne K (.ref aw) (.ref aw)=some true)
  (k_NoDeed_ValueError:PySem.W.kitOne K (.ref aw) (.type "ValueError")=some true)
  (z_ValueError:PySem.W.nsIn K mainGlobals "ValueError"=some none)
  (z_enumerate:PySem.W.nsIn K mainGlobals "enumerate"=some none)
  (z_int:PySem.W.nsIn K mainGlobals "int"=some none)
  (z_isinstance:PySem.W.nsIn K mainGlobals "isinstance"=some none)
  (z_len:PySem.W.nsIn K mainGlobals "len"=some none)
  (z_list:PySem.W.nsIn K mainGlobals "list"=some none)
  (z_max:PySem.W.nsIn K mainGlobals "max"=some none)
  (z_min:PySem.W.nsIn K mainGlobals "min"=some none)
  (z_range:PySem.W.nsIn K mainGlobals "range"=some none)
  (z_repr:PySem.W.nsIn K mainGlobals "repr"=some none)
  (z_sorted:PySem.W.nsIn K mainGlobals "sorted"=some none)
  (z_tuple:PySem.W.nsIn K mainGlobals "tuple"=some none)
  (z_zip:PySem.W.nsIn K mainGlobals "zip"=some none):
  ∃fd:FuncData,(∀(s:Shared) (v:Value),BindsTo s fd ⟨[v],[]⟩ [("_law_script",v)])/\ ∀base:Heap,K.In base->base.Ns mainGlobals mg->cD l.prog w K mg base iK 6 fa fd ["_law_script"] (ku K):=by
 have e:=hfa.symm.trans (PySem.W.mg_of X G a25)
 cases e
 have F0:=bC (st:=eE) l0 c0 k0
 have b0:=F0.binds (ps:=["letter"]) fun _ _ _ _ _ _=>bp fun _=>eJ rfl
 have F1:=bC (st:=iS) l1 c1 k1
 have b1:=F1.binds (ps:=["yard"]) fun _ _ _ _ _ _=>bp fun _=>eJ rfl
 have F2:=bC (st:=eF) l2 c2 k2
 have b2:=F2.binds (ps:=["orders","cord","places"]) fun _ _ _ _ _ _=>bp fun _=>bp fun _=>bp fun _=>eJ rfl
 have F3:=bC (st:=fk) l3 c3 k3
 have b3:=F3.binds (ps:=["orders","band","number"]) fun _ _ _ _ _ _=>bp fun _=>bp fun _=>bp fun _=>eJ rfl
 have F4:=bC (st:=gr) l4 c4 k4
 have b4:=F4.binds (ps:=["words","orders","cord","place"]) fun _ _ _ _ _ _=>bp fun _=>bp fun _=>bp fun _=>bp fun _=>eJ rfl
 have F5:=bC (st:=iT) l5 c5 k5
 have b5:=F5.binds (ps:=["words","orders","cord","place","letter","number"]) fun _ _ _ _ _ _=>bp fun _=>bp fun _=>bp fun _=>bp fun _=>bp fun _=>bp fun _=>eJ rfl
 have F6:=bC (st:=fo) l6 c6 k6
 have b6:=F6.binds (ps:=["words","orders","cord"]) fun _ _ _ _ _ _=>bp fun _=>bp fun _=>bp fun _=>eJ rfl
 have F7:=bC (st:=fq) l7 c7 k7
 have b7:=F7.binds (ps:=["yard","words","orders","deed"]) fun _ _ _ _ _ _=>bp fun _=>bp fun _=>bp fun _=>bp fun _=>eJ rfl
 have F8:=bC (st:=kK) l8 c8 k8
 have b8:=F8.binds (ps:=["yard","drawing","deeds"]) fun _ _ _ _ _ _=>bp fun _=>bp fun _=>bp fun _=>eJ rfl
 have F9:=bC (st:=kL) l9 c9 k9
 have b9:=F9.binds (ps:=["_law_script","_law_k"]) fun _ _ _ _ _ _=>bp fun _=>bp fun _=>eJ rfl
 have cx:=bC (st:=iU) l10 c10 k10
 have b10:=cx.binds (ps:=["_law_box_here","_law_many"]) fun _ _ _ _ _ _=>bp fun _=>bp fun _=>eJ rfl
 have kf:=bC (st:=gs) l11 c11 k11
 have b11:=kf.binds (ps:=["_law_letter"]) fun _ _ _ _ _ _=>bp fun _=>eJ rfl
 have Ij:=bC (st:=iV) l12 c12 k12
 have b12:=Ij.binds (ps:=["_law_box_here","_law_few","_law_top"]) fun _ _ _ _ _ _=>bp fun _=>bp fun _=>bp fun _=>eJ rfl
 have Ik:=bC (st:=iW) l13 c13 k13
 have b13:=Ik.binds (ps:=["_law_box_here","_law_yard_here","_law_top"]) fun _ _ _ _ _ _=>bp fun _=>bp fun _=>bp fun _=>eJ rfl
 have Il:=bC (st:=gu) l14 c14 k14
 have b14:=Il.binds (ps:=["_law_box_here","_law_things"]) fun _ _ _ _ _ _=>bp fun _=>bp fun _=>eJ rfl
 have tO:=bC (st:=gv) l15 c15 k15
 have b15:=tO.binds (ps:=["_law_yard_here"]) fun _ _ _ _ _ _=>bp fun _=>eJ rfl
 have Im:=bC (st:=eG) l16 c16 k16
 have b16:=Im.binds (ps:=["_law_box_here","_law_yard_here","_law_words_here"]) fun _ _ _ _ _ _=>bp fun _=>bp fun _=>bp fun _=>eJ rfl
 have Io:=bC (st:=gz) l17 c17 k17
 have b17:=Io.binds (ps:=["_law_box_here","_law_yard_here"]) fun _ _ _ _ _ _=>bp fun _=>bp fun _=>eJ rfl
 have Ip:=bC (st:=ft) l18 c18 k18
 have b18:=Ip.binds (ps:=["_law_drawing_here"]) fun _ _ _ _ _ _=>bp fun _=>eJ rfl
 have Iq:=bC (st:=iX) l19 c19 k19
 have b19:=Iq.binds (ps:=["_law_world"]) fun _ _ _ _ _ _=>bp fun _=>eJ rfl
 have Ir:=bC (st:=iY) l20 c20 k20
 have b20:=Ir.binds (ps:=["_law_yard_here","_law_world","_law_deed_here"]) fun _ _ _ _ _ _=>bp fun _=>bp fun _=>bp fun _=>eJ rfl
 have Iu:=bC (st:=iZ) l21 c21 k21
 have b21:=Iu.binds (ps:=["_law_box_here","_law_yard_here","_law_drawing_here"]) fun _ _ _ _ _ _=>bp fun _=>bp fun _=>bp fun _=>eJ rfl
 have Iv:=bC (st:=kM) l22 c22 k22
 have b22:=Iv.binds (ps:=["_law_box_here","_law_yard_here","_law_drawing_here"]) fun _ _ _ _ _ _=>bp fun _=>bp fun _=>bp fun _=>eJ rfl
 have Cj:=bC (st:=i0) l23 c23 k23
 have b23:=Cj.binds (ps:=["_law_yard_here","_law_drawing_here","_law_deeds"]) fun _ _ _ _ _ _=>bp fun _=>bp fun _=>bp fun _=>eJ rfl
 have yp:=bC (st:=i3) l24 c24 k24
 have b24:=yp.binds (ps:=["_law_yard_here","_law_drawing_here","_law_deeds"]) fun _ _ _ _ _ _=>bp fun _=>bp fun _=>bp fun _=>eJ rfl
 have OB:=bC (st:=pj) l25 c25 k25
 have b25:=OB.binds (ps:=["_law_script"]) fun _ _ _ _ _ _=>bp fun _=>eJ rfl
 have pH:=bC (st:=eI) li_NoDeed ci_NoDeed ki_NoDeed
 have yV:=pH.binds (ps:=["self","at"]) fun _ _ _ _ _ _=>bp fun _=>bp fun _=>eJ rfl
 have T:Txt K mg _ _ _ _ _ _ _ _ _ _ _ _ _ _ _ _ _ _ _ _ _ _ _ _ _ _ _ _ _ _ _ _ _ _ _ _ _ _ _ _ _ _ _ _ _ _ _ _ _ _ _ _ _ _ _ _ _ _ _ _ _ _ _ _ _ _ _ _:=⟨⟨F0,PySem.W.mg_of X G a0,b0⟩,⟨F1,PySem.W.mg_of X G a1,b1⟩,⟨F2,PySem.W.mg_of X G a2,b2⟩,⟨F3,PySem.W.mg_of X G a3,b3⟩,⟨F4,PySem.W.mg_of X G a4,b4⟩,⟨F5,PySem.W.mg_of X G a5,b5⟩,⟨F6,PySem.W.mg_of X G a6,b6⟩,⟨F7,PySem.W.mg_of X G a7,b7⟩,⟨F8,PySem.W.mg_of X G a8,b8⟩,⟨F9,PySem.W.mg_of X G a9,b9⟩,⟨cx,PySem.W.mg_of X G a10,b10⟩,⟨kf,PySem.W.mg_of X G a11,b11⟩,⟨Ij,PySem.W.mg_of X G a12,b12⟩,⟨Ik,PySem.W.mg_of X G a13,b13⟩,⟨Il,PySem.W.mg_of X G a14,b14⟩,⟨tO,PySem.W.mg_of X G a15,b15⟩,⟨Im,PySem.W.mg_of X G a16,b16⟩,⟨Io,PySem.W.mg_of X G a17,b17⟩,⟨Ip,PySem.W.mg_of X G a18,b18⟩,⟨Iq,PySem.W.mg_of X G a19,b19⟩,⟨Ir,PySem.W.mg_of X G a20,b20⟩,⟨Iu,PySem.W.mg_of X G a21,b21⟩,⟨Iv,PySem.W.mg_of X G a22,b22⟩,⟨Cj,PySem.W.mg_of X G a23,b23⟩,⟨yp,PySem.W.mg_of X G a24,b24⟩,⟨OB,PySem.W.mg_of X G a25,b25⟩,PySem.W.mg_of X G q_NoDeed,PySem.W.mg_of X G q_MeetError,PySem.W.mg_of X G q_NoCut,PySem.W.mg_of X G q_NoDrawing,PySem.W.mg_of X G q_NoName,PySem.W.mg_of X G q_NoPaper,PySem.W.mg_of X G q_NoRow,PySem.W.mg_of X G q_NoText,PySem.W.mg_of X G q_NoWord,PySem.W.mg_of X G q_NoYard,PySem.W.mg_of X G q_NotApart,PySem.W.mg_of X G q_NotLone,PySem.W.mg_of X G q_TooLong,PySem.W.mg_of X G q_Twice,⟨xis_NoDeed,xga_NoDeed,xgh_NoDeed,xsa_NoDeed,xcl_NoDeed,xcg_NoDeed,xct_NoDeed,xob_NoDeed,xkp_NoDeed⟩,r_NoDeed,⟨xis_MeetError,xga_MeetError,xgh_MeetError,xsa_MeetError,xcl_MeetError,xcg_MeetError,xct_MeetError,xob_MeetError,xkp_MeetError⟩,⟨⟨xis_NoDeed,xga_NoDeed,xgh_NoDeed,xsa_NoDeed,xcl_NoDeed,xcg_NoDeed,xct_NoDeed,xob_NoDeed,xkp_NoDeed⟩,qi_NoDeed,fi_NoDeed⟩,pH,yV,n_NoDeed_at,⟨xbr,xbg,xbf⟩,k_NoDeed_NoCut,k_NoDeed_NoDrawing,k_NoDeed_NoName,k_NoDeed_NoPaper,k_NoDeed_NoRow,k_NoDeed_NoText,k_NoDeed_NoWord,k_NoDeed_NoYard,k_NoDeed_NotApart,k_NoDeed_NotLone,k_NoDeed_TooLong,k_NoDeed_Twice,k_NoDeed_NoDeed,k_NoDeed_ValueError,PySem.W.mg_none_of X G z_ValueError,PySem.W.mg_none_of X G z_enumerate,PySem.W.mg_none_of X G z_int,PySem.W.mg_none_of X G z_isinstance,PySem.W.mg_none_of X G z_len,PySem.W.mg_none_of X G z_list,PySem.W.mg_none_of X G z_max,PySem.W.mg_none_of X G z_min,PySem.W.mg_none_of X G z_range,PySem.W.mg_none_of X G z_repr,PySem.W.mg_none_of X G z_sorted,PySem.W.mg_none_of X G z_tuple,PySem.W.mg_none_of X G z_zip⟩
 exact ⟨_,fun s v=> .of_eq rfl,fun base _ _=>Jl T⟩
theorem walk {l:PySem.W.OpenLaw} {q:Program} {loose:List Str} {XP:(Str->Option Value)->Heap->Prop} {YP:World->Heap->Prop} {d:DefRec} {K:Params->PySem.W.Frag} (hn:l.most=some 63) (KJ:d.params.defaults=[])
  (hY: ∀(w:World) (h:Heap),YP w h->(K w.params).In h)
  (F: ∀(w:World) (mg:Str->Option Value) (fa:Addr) (h:Heap),(K w.params).In h->h.Ns mainGlobals mg->mg d.name=some (.ref fa)->
   ∃fd:FuncData,(∀(s:Shared) (u:Value),BindsTo s fd ⟨[u],[]⟩ [("_law_script",u)])/\ ∀base:Heap,(K w.params).In base->base.Ns mainGlobals mg->cD l.prog w (K w.params) mg base iK 6 fa fd ["_law_script"] (ku (K w.params))):
  PySem.W.WalkO q loose XP YP l.row.toRowW d [] (fun f vs=>PySem.call f vs):=
 L2.vI (n:=63) (k:=6) (x:="_law_script") (CX:=fun _=>iK) (sp:=fun w=>ku (K w.params)) hn (by decide) KJ ⟨rfl,by decide,by decide,rfl⟩ hY F (fun _ _ a ns hl _ hS=>⟨a,ns,rfl,hS,hl,fun _=>rfl⟩) fun _ _ _ _ _ z=>z
end My
namespace PySem.W.Fast
def tw10030919920756805844:=0
def tw10042511240760851912:=0
def tw10115762778350083845:=0
def tw10250325275458483496:=0
def tw10267004554779855105:=0
def tw10289088311941683127:=0
def tw10298060635389153328:=0
def tw10333087574660835454:=0
def tw10378415158205561357:=0
def tw10393874318379460735:=0
def tw10477296722468087436:=0
def tw10502810655560708034:=0
def tw10506052496452918424:=0
def tw10509085780338968662:=0
def tw10521862510099053502:=0
def tw10548535165568484217:=0
def tw10560729499095315318:=0
def tw1057910746751537845:=0
def tw10627713825481631797:=0
def tw10644427438943885801:=0
def tw10682595446286403988:=0
def tw1069306424005466641:=0
def tw1074039537333663472:=0
def tw1080032719632555698:=0
def tw1083962442414710318:=0
def tw10870535378697130213:=0
def tw10922932492747853058:=0
def tw10958812602958484297:=0
def tw10980794992033649098:=0
def tw1103070776320666638:=0
def tw11066444611763905937:=0
def tw11108229736017919410:=0
def tw11207537300696709204:=0
def tw1126713936746433990:=0
def tw11378286778272462407:=0
def tw1138358938197903501:=0
def tw11393405430961919613:=0
def tw11406533501942593205:=0
def tw1142628502408737949:=0
def tw11477868696765424029:=0
def tw11515262889239557530:=0
def tw1152163865756888162:=0
def tw11566267882026975891:=0
def tw11601905079552644031:=0
def tw11710409364528331369:=0
def tw11722879234269592471:=0
def tw11746849427011191100:=0
def tw11771787510907448423:=0
def tw11777762090992112259:=0
def tw11864178862573483579:=0
def tw11878440764253272150:=0
def tw11924581893246060896:=0
def tw12011193988625051103:=0
def tw1202030540463436522:=0
def tw12026828995776127359:=0
def tw12116424874580520735:=0
def tw12146361457104013035:=0
def tw12176303877599303764:=0
def tw12358249503600090905:=0
def tw12390416794720720469:=0
def tw1240463777089015305:=0
def tw12458254098086668486:=0
def tw12492695871372572084:=0
def tw12506087093892449396:=0
def tw12538954184295270823:=0
def tw12579835594480424971:=0
def tw12586844189253677951:=0
def tw12595141388116049187:=0
def tw12637819138173063131:=0
def tw12641574883799973110:=0
def tw12767191259895292810:=0
def tw1276856013310535006:=0
def tw12771730810808230194:=0
def tw12772302207800278673:=0
def tw12790411742142959227:=0
def tw12797514023461648612:=0
def tw12803489354922740481:=0
def tw12833105626212161280:=0
def tw13015731568968024820:=0
def tw13030024786912296276:=0
def tw13045262572212166412:=0
def tw13055252194009320978:=0
def tw13064550411241701830:=0
def tw13078633413144423991:=0
def tw13093982276502512553:=0
def tw13094471589791029018:=0
def tw13146716551526759326:=0
def tw13162622529711925003:=0
def tw13168309288352121173:=0
def tw13176492008374272258:=0
def tw13198072533614710015:=0
def tw13214165381080385628:=0
def tw1322835353462764474:=0
def tw13272492602252705503:=0
def tw13289130526310446125:=0
def tw13299509514759403252:=0
def tw13371787194538715850:=0
def tw13437487222852315628:=0
def tw13522298405565069136:=0
def tw13616867446530337348:=0
def tw13735695299020928621:=0
def tw137381271468152484:=0
def tw13755391929608175603:=0
def tw1377959775786259671:=0
def tw13836690395571833831:=0
def tw13851212573610908117:=0
def tw13871548275864629870:=0
def tw13902165550485500145:=0
def tw13927261372131446717:=0
def tw13928811863871709952:=0
def tw13965343267229461129:=0
def tw13979425852279047364:=0
def tw13987628303919555800:=0
def tw13998331922521243126:=0
def tw14005920351093576692:=0
def tw14025407138130317033:=0
def tw14045600830631736353:=0
def tw14068895927762829213:=0
def tw14073856823361551885:=0
def tw14202757095639868046:=0
def tw14219509266732080996:=0
def tw14238458923386258059:=0
def tw14247601526966352998:=0
def tw14256105421228102928:=0
def tw14266701921972303648:=0
def tw14341094701095325755:=0
def tw14360269458295785916:=0
def tw14512958066918040741:=0
def tw14526082978578681282:=0
def tw14549264465186298910:=0
def tw14596134923691304911:=0
def tw14600691211838393125:=0
def tw14673070939168577276:=0
def tw14727544228961619374:=0
def tw1475641554351832219:=0
def tw14930453050393987047:=0
def tw15056958553404538218:=0
def tw15058339393942725536:=0
def tw15095467655609548460:=0
def tw15121563326717698873:=0
def tw15203476664882829980:=0
def tw15259783542573908958:=0
def tw15372473134427023386:=0
def tw15398513228263248917:=0
def tw15413306365295068757:=0
def tw15450325899239520815:=0
def tw15460896521085781055:=0
def tw15522095649253468454:=0
def tw15539179614018241140:=0
def tw15611122634093396310:=0
def tw15697026015345805021:=0
def tw15733900953392810595:=0
def tw15735114224369198154:=0
def tw15748436050698918211:=0
def tw15752862782206970854:=0
def tw15872276696212773429:=0
def tw15877696916692526089:=0
def tw15890951587967533539:=0
def tw15922063530533621287:=0
def tw15997436020241547852:=0
def tw16007915681175960057:=0
def tw16049387727358507744:=0
def tw16111901793074636709:=0
def tw16142811881881580896:=0
def tw16265492801164430216:=0
def tw16307237422860116229:=0
def tw16336881170482470982:=0
def tw16365585685708225102:=0
def tw16503149789495928129:=0
def tw16518135242524875973:=0
def tw16588554985726784820:=0
def tw16592819155051308372:=0
def tw16632494702430913395:=0
def tw16653774982323241363:=0
def tw16674584880709150905:=0
def tw16703408976087954970:=0
def tw16818833261996637346:=0
def tw16823005832650618417:=0
def tw16839020763435852764:=0
def tw16865432005031918203:=0
def tw16922904755704996332:=0
def tw16924648853810934838:=0
def tw16997778615211810784:=0
def tw1708521359487224244:=0
def tw17110643587116131514:=0
def tw1713832841379321349:=0
def tw17138919519820374153:=0
def tw17273851372951612122:=0
def tw17297008299669365832:=0
def tw17345934169792391428:=0
def tw17374037863466970730:=0
def tw17388299283470101239:=0
def tw17447989008554553069:=0
def tw17460459621062120509:=0
def tw17512410656267426847:=0
def tw17523803408618182489:=0
def tw17529506620523084480:=0
def tw17583974454717878491:=0
def tw17594303052954157622:=0
def tw17596621501001118103:=0
def tw17599972252924566693:=0
def tw1762242937748652747:=0
def tw17694961023449568927:=0
def tw17709274449653333005:=0
def tw17769034941127300364:=0
def tw17802723230500859003:=0
def tw17892557550971156114:=0
def tw17953169977932106940:=0
def tw18024905335636466665:=0
def tw18048553923381149006:=0
def tw18110915954382791152:=0
def tw18172284909148512575:=0
def tw18226122728621577952:=0
def tw18270029310717446640:=0
def tw18275024656432459261:=0
def tw1832356843423880277:=0
def tw1834843813347136707:=0
def tw18349628832638421728:=0
def tw18425500527460011717:=0
def tw1992766790878663966:=0
def tw2042994398657139521:=0
def tw2075692613880930181:=0
def tw2080547177901767964:=0
def tw2125663339593972628:=0
def tw2152061485496108982:=0
def tw2161325687487618321:=0
def tw2180870947013242276:=0
def tw2240609664694821588:=0
def tw2259809770178821155:=0
def tw2347820823001555071:=0
def tw2355940124960065019:=0
def tw2474304198511935426:=0
def tw252137451313130610:=0
def tw2567191715268817882:=0
def tw2610822208981462605:=0
def tw2641183069833529742:=0
def tw273475071566160499:=0
def tw275387081540616801:=0
def tw2773168398038619849:=0
def tw2788637471406822341:=0
def tw2793292679825208512:=0
def tw2807918464266834422:=0
def tw2833849392963191082:=0
def tw2880126231534248453:=0
def tw2902430642091365812:=0
def tw2931582132347257501:=0
def tw2961025958764803154:=0
def tw2976597000777712939:=0
def tw3003276777529175455:=0
def tw3020093178594942609:=0
def tw3033216089479762691:=0
def tw3069768324960298888:=0
def tw3236506118920839572:=0
def tw3256804761409934196:=0
def tw3280429498854097234:=0
def tw3336555312551430645:=0
def tw3355331394766403936:=0
def tw3492627651262887121:=0
def tw357616035618079274:=0
def tw360364416458337119:=0
def tw3651886150401237945:=0
def tw3665511030426370625:=0
def tw3674543840528866676:=0
def tw3708462591948949368:=0
def tw3915996084543732584:=0
def tw3931661433098022897:=0
def tw3940930278265311335:=0
def tw3959108236863282778:=0
def tw3988240741521656293:=0
def tw4141343513866685592:=0
def tw4158769145078901165:=0
def tw4185939832168695232:=0
def tw4268431699251280123:=0
def tw430349002008404704:=0
def tw4339316185317411296:=0
def tw4356835824272140378:=0
def tw4359201901368302496:=0
def tw4378984821326631232:=0
def tw4379268907647729131:=0
def tw4434748353972780356:=0
def tw444765386727538084:=0
def tw4457171672403465434:=0
def tw4460113257269869687:=0
def tw446089146746313364:=0
def tw4580607977316774658:=0
def tw4598648892303000978:=0
def tw4618059688823736427:=0
def tw4729325985345301580:=0
def tw475258000067676617:=0
def tw4797261697249199815:=0
def tw4820598183580780809:=0
def tw4830859200791905543:=0
def tw4849048431866714319:=0
def tw4870891672815021833:=0
def tw4923157236993352739:=0
def tw4949015964557176650:=0
def tw5026560792934419610:=0
def tw5109622757299440822:=0
def tw511160898254667003:=0
def tw5118850000653519932:=0
def tw517836909182874360:=0
def tw5224551511427009800:=0
def tw5243855718038258692:=0
def tw5408451947159170335:=0
def tw5467337224442497985:=0
def tw5468142192638758696:=0
def tw5515629965432321321:=0
def tw5540601608556978602:=0
def tw5541446129140920765:=0
def tw5542219310283942651:=0
def tw5577632915631537505:=0
def tw5609108195624095718:=0
def tw5720622547345957612:=0
def tw5761196331873933138:=0
def tw5777322883270995546:=0
def tw5793948875424830529:=0
def tw5794969804604002449:=0
def tw5828452621214774298:=0
def tw5870976558812027561:=0
def tw6031383915195505316:=0
def tw6081891561574345967:=0
def tw6121900842019891443:=0
def tw6183663862164527674:=0
def tw6234355014830947535:=0
def tw6267422185123097568:=0
def tw645229313479901317:=0
def tw6452884462147953302:=0
def tw6472836391058947795:=0
def tw6515610445121176153:=0
def tw6516621767698579199:=0
def tw6527810123696096267:=0
def tw6542817819221701275:=0
def tw665522729051573105:=0
def tw666060707311780679:=0
def tw6668480264161928714:=0
def tw6688523122184759613:=0
def tw6726263869614892745:=0
def tw6793218729431703916:=0
def tw6824277527380016822:=0
def tw6909166541874895472:=0
def tw6945890371132175345:=0
def tw6995222482122495545:=0
def tw7011715283939030782:=0
def tw7019707646266722507:=0
def tw7032024556442656509:=0
def tw7162642260463431645:=0
def tw718121701912338850:=0
def tw7214969588118851349:=0
def tw7277877567708686196:=0
def tw7278027552927176828:=0
def tw7278269887271906827:=0
def tw7285498033914677722:=0
def tw7330177444088636970:=0
def tw7446847851975212901:=0
def tw7474607117660777177:=0
def tw747525633347661176:=0
def tw7489235351701944671:=0
def tw7612550375491993506:=0
def tw7714742025046226487:=0
def tw7735930711256445411:=0
def tw7875218088121829042:=0
def tw7902246307427003015:=0
def tw7956853999035038490:=0
def tw7958304415053880218:=0
def tw7961452628385275321:=0
def tw8047110810282162649:=0
def tw8138340129793014390:=0
def tw8148218943760546955:=0
def tw8155475859651809901:=0
def tw8190381080525660497:=0
def tw825340251966867147:=0
def tw8293900316085715241:=0
def tw8334814185440460866:=0
def tw8395367076205708272:=0
def tw8396314764525721884:=0
def tw8436936255015102901:=0
def tw852169242566931289:=0
def tw8531242988605567139:=0
def tw8532673990239232886:=0
def tw8563389266387827037:=0
def tw8588191249633439325:=0
def tw8608951472708147228:=0
def tw8642016958508425339:=0
def tw871456502460342777:=0
def tw8769692186055934687:=0
def tw8830915354646500212:=0
def tw8837139455093590669:=0
def tw883748827354692832:=0
def tw8840006806596482335:=0
def tw8874006320950943673:=0
def tw8895623160208267849:=0
def tw8926285615997740256:=0
def tw9038734567384249890:=0
def tw907591996962450050:=0
def tw9080878548864160597:=0
def tw9121546824428787968:=0
def tw9145371916595947675:=0
def tw9154558081944227347:=0
def tw9162696406479475800:=0
def tw9231745285989419907:=0
def tw9350878226157485307:=0
def tw9550806282394314525:=0
def tw9552237897479061036:=0
def tw9563617613162768573:=0
def tw9574364539343439107:=0
def tw9603357680166570516:=0
def tw9604524348152144271:=0
def tw9634955439564405743:=0
def tw9739559657485440566:=0
def tw9763845441367841642:=0
def tw9769171540242633615:=0
def tw9805740386691696876:=0
def tw982000150905916783:=0
def tw9853953021618315015:=0
def tw9931538540644480013:=0
def tw9947996668106890472:=0
def tw9985115277631582617:=0
end PySem.W.Fast
open PySem PySem.W PyProof.Rows
set_option maxRecDepth 100000 in
set_option maxHeartbeats 0 in
theorem PySem.Challenge.cw_mustmeet_k21_deeds_that_cannot_be_holds : PySem.Challenge.rw_mustmeet_k21_deeds_that_cannot_be.Holds := by
 w_on;o_law;k_head;(case hw=>w_witness2)
 k_fill
 refine My.walk (l:=PySem.Challenge.rw_mustmeet_k21_deeds_that_cannot_be) rfl rfl (fun w h Y=>PySem.W.kIn_of Y) ?F
 case F=>
  intro w mg fa h KX G hmg
  refine' My.all_mk KX G hmg ?a0 ?l0 ?c0 ?k0 ?a1 ?l1 ?c1 ?k1 ?a2 ?l2 ?c2 ?k2 ?a3 ?l3 ?c3 ?k3 ?a4 ?l4 ?c4 ?k4 ?a5 ?l5 ?c5 ?k5 ?a6 ?l6 ?c6 ?k6 ?a7 ?l7 ?c7 ?k7 ?a8 ?l8 ?c8 ?k8 ?a9 ?l9 ?c9 ?k9 ?a10 ?l10 ?c10 ?k10 ?a11 ?l11 ?c11 ?k11 ?a12 ?l12 ?c12 ?k12 ?a13 ?l13 ?c13 ?k13 ?a14 ?l14 ?c14 ?k14 ?a15 ?l15 ?c15 ?k15 ?a16 ?l16 ?c16 ?k16 ?a17 ?l17 ?c17 ?k17 ?a18 ?l18 ?c18 ?k18 ?a19 ?l19 ?c19 ?k19 ?a20 ?l20 ?c20 ?k20 ?a21 ?l21 ?c21 ?k21 ?a22 ?l22 ?c22 ?k22 ?a23 ?l23 ?c23 ?k23 ?a24 ?l24 ?c24 ?k24 ?a25 ?l25 ?c25 ?k25 ?q_NoDeed ?q_MeetError ?q_NoCut ?q_NoDrawing ?q_NoName ?q_NoPaper ?q_NoRow ?q_NoText ?q_NoWord ?q_NoYard ?q_NotApart ?q_NotLone ?q_TooLong ?q_Twice ?xis_NoDeed ?xga_NoDeed ?xgh_NoDeed ?xsa_NoDeed ?xcl_NoDeed ?xcg_NoDeed ?xct_NoDeed ?xob_NoDeed ?xkp_NoDeed ?r_NoDeed ?xis_MeetError ?xga_MeetError ?xgh_MeetError ?xsa_MeetError ?xcl_MeetError ?xcg_MeetError ?xct_MeetError ?xob_MeetError ?xkp_MeetError ?qi_NoDeed ?fi_NoDeed ?li_NoDeed ?ci_NoDeed ?ki_NoDeed ?n_NoDeed_at ?xbr ?xbg ?xbf ?k_NoDeed_NoCut ?k_NoDeed_NoDrawing ?k_NoDeed_NoName ?k_NoDeed_NoPaper ?k_NoDeed_NoRow ?k_NoDeed_NoText ?k_NoDeed_NoWord ?k_NoDeed_NoYard ?k_NoDeed_NotApart ?k_NoDeed_NotLone ?k_NoDeed_TooLong ?k_NoDeed_Twice ?k_NoDeed_NoDeed ?k_NoDeed_ValueError ?z_ValueError ?z_enumerate ?z_int ?z_isinstance ?z_len ?z_list ?z_max ?z_min ?z_range ?z_repr ?z_sorted ?z_tuple ?z_zip
  case a0|l0|c0|k0|a1|l1|c1|k1|a2|l2|c2|k2|a3|l3|c3|k3|a4|l4|c4|k4|a5|l5|c5|k5|a6|l6|c6|k6|a7|l7|c7|k7|a8|l8|c8|k8|a9|l9|c9|k9|a10|l10|c10|k10|a11|l11|c11|k11|a12|l12|c12|k12|a13|l13|c13|k13|a14|l14|c14|k14|a15|l15|c15|k15|a16|l16|c16|k16|a17|l17|c17|k17|a18|l18|c18|k18|a19|l19|c19|k19|a20|l20|c20|k20|a21|l21|c21|k21|a22|l22|c22|k22|a23|l23|c23|k23|a24|l24|c24|k24|a25|l25|c25|k25|q_NoDeed|q_MeetError|q_NoCut|q_NoDrawing|q_NoName|q_NoPaper|q_NoRow|q_NoText|q_NoWord|q_NoYard|q_NotApart|q_NotLone|q_TooLong|q_Twice=>k_is
  (case xis_NoDeed=>kernel_rfl)
  case xga_NoDeed|xgh_NoDeed|xsa_NoDeed|xcl_NoDeed|xcg_NoDeed|xct_NoDeed|xob_NoDeed|xkp_NoDeed|r_NoDeed=>k_is
  (case xis_MeetError=>kernel_rfl)
  case xga_MeetError|xgh_MeetError|xsa_MeetError|xcl_MeetError|xcg_MeetError|xct_MeetError|xob_MeetError|xkp_MeetError|qi_NoDeed|fi_NoDeed|li_NoDeed|ci_NoDeed|ki_NoDeed|n_NoDeed_at|xbr|xbg|xbf=>k_is
  (case k_NoDeed_NoCut=>kernel_rfl)
  (case k_NoDeed_NoDrawing=>kernel_rfl)
  (case k_NoDeed_NoName=>kernel_rfl)
  (case k_NoDeed_NoPaper=>kernel_rfl)
  (case k_NoDeed_NoRow=>kernel_rfl)
  (case k_NoDeed_NoText=>kernel_rfl)
  (case k_NoDeed_NoWord=>kernel_rfl)
  (case k_NoDeed_NoYard=>kernel_rfl)
  (case k_NoDeed_NotApart=>kernel_rfl)
  (case k_NoDeed_NotLone=>kernel_rfl)
  (case k_NoDeed_TooLong=>kernel_rfl)
  (case k_NoDeed_Twice=>kernel_rfl)
  (case k_NoDeed_NoDeed=>kernel_rfl)
  (case k_NoDeed_ValueError=>kernel_rfl)
  case z_ValueError|z_enumerate|z_int|z_isinstance|z_len|z_list|z_max|z_min|z_range|z_repr|z_sorted|z_tuple|z_zip=>k_is
